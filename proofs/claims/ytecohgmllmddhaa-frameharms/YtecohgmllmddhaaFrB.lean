/-
  The walks of package frame: writeHead, Encode.
-/
import Derived.Test.YtecohgmllmddhaaFrM
import Derived.Test.YtecohgmllmddhaaWireD
import Derived.Test.YtecohgmllmddhaaWireS
namespace Go.Proofs.Ytecohgmllmddhaa
open Go.RowKit
set_option linter.unusedVariables false

/-- A Writer's state while a header's block is read beside it. -/
def WH (w0 : World) (base b hb : Nat) (row0 : Option Nat) (S N B Q E F L I : Int) (T : List UInt8) (W : World) : Prop :=
  ∃ row, IsWr W base b row T ∧ Eight W hb S N B Q E F L I ∧ row ≠ some hb ∧ b ≠ hb ∧ base ≤ W.heap.size ∧ Fr w0 W b row0 ∧ (row = row0 ∨ ∃ k, row = some k ∧ w0.heap.size ≤ k)

theorem Eight.kept {W W' : World} {b : Nat} {S N B Q E F L I : Int} (h : Eight W b S N B Q E F L I) (hb : W'.heap[b]? = W.heap[b]?) : Eight W' b S N B Q E F L I := by
  obtain ⟨h0, h1, h2, h3, h4, h5, h6, h7⟩ := h
  exact ⟨(World.cell?_of_block (a := ⟨b, 0, none⟩) hb).trans h0, (World.cell?_of_block (a := ⟨b, 1, none⟩) hb).trans h1, (World.cell?_of_block (a := ⟨b, 2, none⟩) hb).trans h2, (World.cell?_of_block (a := ⟨b, 3, none⟩) hb).trans h3, (World.cell?_of_block (a := ⟨b, 4, none⟩) hb).trans h4, (World.cell?_of_block (a := ⟨b, 5, none⟩) hb).trans h5, (World.cell?_of_block (a := ⟨b, 6, none⟩) hb).trans h6, (World.cell?_of_block (a := ⟨b, 7, none⟩) hb).trans h7⟩

theorem wh_put (w0 : World) (base b hb : Nat) (row0 : Option Nat) (S N B Q E F L I : Int) (T : List UInt8) (W : World) (n s : Nat) (h : WH w0 base b hb row0 S N B Q E F L I T W) (h1 : 1 ≤ s) (h8 : s ≤ 8) (hn : n < 2 ^ (8 * s)) (hl : T.length ≤ 1000000) :
    Calls Try.prog 65 #[.pointer (some ⟨b, 0, none⟩), .int .u64 n, .int .i64 s] W fun e w' => e = .returned (.bool true) ∧ WH w0 base b hb row0 S N B Q E F L I (T ++ be n s) w' := by
  obtain ⟨row, hw, h8', hr, hbh, hbase, hf, hrow⟩ := h
  refine (put_yes base b row T n s W hw hbase h1 h8 hn hl).mono ?_
  rintro e w' ⟨rfl, row', hw', hf', hr'⟩
  have hlt : hb < W.heap.size := cell_block_lt h8'.1
  have R := fr_trans hf hrow hf' hr'
  refine ⟨rfl, row', hw', h8'.kept (hf'.block hb hlt (Ne.symm hbh) (Ne.symm hr)), ?_, hbh, by have := hf'.size; omega, R.1, R.2⟩
  rcases hr' with rfl | ⟨k, rfl, hk⟩
  · exact hr
  · intro e; injection e with e; omega

theorem wrapU (n : Nat) (h : n < 18446744073709551616) : IntKind.u64.wrap (n : Int) = (n : Int) := by
  simp [IntKind.wrap, IntKind.bits, IntKind.signed]; omega

set_option maxRecDepth 100000 in
set_option maxHeartbeats 2000000 in
/-- writeHead. -/
theorem whead_any (base b : Nat) (row : Option Nat) (S N B Q E F L I : Nat) (w : World) (hw : IsWr w base b row []) (hbase : base ≤ w.heap.size) (hS : S < 2 ^ 64) (hN : N < 2 ^ 32) (hB : B < 2 ^ 16) (hQ : Q < 2 ^ 8) (hE : E < 2 ^ 16) (hF : F < 2 ^ 16) (hL : L < 2 ^ 63) (hI : I < 2 ^ 64) :
    Calls Try.prog 51 #[.pointer (some ⟨b, 0, none⟩), .agg #[.int .u64 (S : Nat), .int .i64 (N : Nat), .int .i64 (B : Nat), .int .i64 (Q : Nat), .int .i64 (E : Nat), .int .i64 (F : Nat), .int .i64 (L : Nat), .int .u64 (I : Nat)]] w fun e w' => e = .returned (.tuple #[]) ∧ ∃ row', IsWr w' base b row' (headB S N B Q E F L I) ∧ Fr w w' b row ∧ (row' = row ∨ ∃ k, row' = some k ∧ w.heap.size ≤ k) := by
  have hb0 : Below w.heap.size w (w.alloc (.cells #[.int .u64 (S : Nat), .int .i64 (N : Nat), .int .i64 (B : Nat), .int .i64 (Q : Nat), .int .i64 (E : Nat), .int .i64 (F : Nat), .int .i64 (L : Nat), .int .u64 (I : Nat)] 26)) := below_alloc _ _
  have H0 : Hid (WH w base b w.heap.size row S N B Q E F L I [] (w.alloc (.cells #[.int .u64 (S : Nat), .int .i64 (N : Nat), .int .i64 (B : Nat), .int .i64 (Q : Nat), .int .i64 (E : Nat), .int .i64 (F : Nat), .int .i64 (L : Nat), .int .u64 (I : Nat)] 26))) := by
    refine ⟨row, hw.below hb0, eight_new _ _ _ _ _ _ _ _ _ _, ?_, ?_, by simp; omega, ⟨hb0.os, hb0.tape, hb0.output, hb0.size, fun k hk _ _ => hb0.block k hk⟩, .inl rfl⟩
    · intro e
      have := (hw.lt.2 _ e).2
      omega
    · have := hw.lt.1
      omega
  obtain ⟨k1, k2, k3, k4, k5, k6⟩ : IntKind.u64.wrap (N : Int) = (N : Int) ∧ IntKind.u64.wrap (B : Int) = (B : Int) ∧ IntKind.u64.wrap (Q : Int) = (Q : Int) ∧ IntKind.u64.wrap (E : Int) = (E : Int) ∧ IntKind.u64.wrap (F : Int) = (F : Int) ∧ IntKind.u64.wrap (L : Int) = (L : Int) :=
    ⟨wrapU N (by omega), wrapU B (by omega), wrapU Q (by omega), wrapU E (by omega), wrapU F (by omega), wrapU L (by omega)⟩
  have B2 : Hid (S < 2 ^ (8 * 8)) := hS
  have B3 : Hid (N < 2 ^ (8 * 4)) := hN
  have B4 : Hid (B < 2 ^ (8 * 2)) := hB
  have B5 : Hid (Q < 2 ^ (8 * 1)) := hQ
  have B6 : Hid (E < 2 ^ (8 * 2)) := hE
  have B7 : Hid (F < 2 ^ (8 * 2)) := hF
  have B8 : Hid (L < 2 ^ (8 * 8)) := by unfold Hid; omega
  have B9 : Hid (I < 2 ^ (8 * 8)) := hI
  clear hw hbase hS hN hB hQ hE hF hL hI hb0
  have LE : Hid (∀ n s, (be n s).length = s) := be_length
  go_enter Try.func51, Try.ntmps51
  go_wp2_with fail
  refine (wh_put w base b w.heap.size row S N B Q E F L I ([]) _ 16716 2 H0.out (by omega) (by omega) (by decide) (by simp)).mono ?_
  rintro e w1 ⟨rfl, h⟩
  have H1 : Hid (WH w base b w.heap.size row S N B Q E F L I ([] ++ be 16716 2) w1) := h
  clear h H0
  go_wp2_with fail
  refine (wh_put w base b w.heap.size row S N B Q E F L I ([] ++ be 16716 2) _ 1 1 H1.out (by omega) (by omega) (by decide) (by simp [LE.out])).mono ?_
  rintro e w2 ⟨rfl, h⟩
  have H2 : Hid (WH w base b w.heap.size row S N B Q E F L I ([] ++ be 16716 2 ++ be 1 1) w2) := h
  clear h H1
  have E2 := H2.out
  obtain ⟨_, _, ⟨c0, c1, c2, c3, c4, c5, c6, c7⟩, _⟩ := E2
  go_wp2_with fail
  refine (wh_put w base b w.heap.size row S N B Q E F L I ([] ++ be 16716 2 ++ be 1 1) _ S 8 H2.out (by omega) (by omega) B2.out (by simp [LE.out])).mono ?_
  rintro e w3 ⟨rfl, h⟩
  have H3 : Hid (WH w base b w.heap.size row S N B Q E F L I ([] ++ be 16716 2 ++ be 1 1 ++ be S 8) w3) := h
  clear h H2 c0 c1 c2 c3 c4 c5 c6 c7
  have E3 := H3.out
  obtain ⟨_, _, ⟨c0, c1, c2, c3, c4, c5, c6, c7⟩, _⟩ := E3
  go_wp2_with fail
  refine (wh_put w base b w.heap.size row S N B Q E F L I ([] ++ be 16716 2 ++ be 1 1 ++ be S 8) _ N 4 H3.out (by omega) (by omega) B3.out (by simp [LE.out])).mono ?_
  rintro e w4 ⟨rfl, h⟩
  have H4 : Hid (WH w base b w.heap.size row S N B Q E F L I ([] ++ be 16716 2 ++ be 1 1 ++ be S 8 ++ be N 4) w4) := h
  clear h H3 c0 c1 c2 c3 c4 c5 c6 c7
  have E4 := H4.out
  obtain ⟨_, _, ⟨c0, c1, c2, c3, c4, c5, c6, c7⟩, _⟩ := E4
  go_wp2_with fail
  refine (wh_put w base b w.heap.size row S N B Q E F L I ([] ++ be 16716 2 ++ be 1 1 ++ be S 8 ++ be N 4) _ B 2 H4.out (by omega) (by omega) B4.out (by simp [LE.out])).mono ?_
  rintro e w5 ⟨rfl, h⟩
  have H5 : Hid (WH w base b w.heap.size row S N B Q E F L I ([] ++ be 16716 2 ++ be 1 1 ++ be S 8 ++ be N 4 ++ be B 2) w5) := h
  clear h H4 c0 c1 c2 c3 c4 c5 c6 c7
  have E5 := H5.out
  obtain ⟨_, _, ⟨c0, c1, c2, c3, c4, c5, c6, c7⟩, _⟩ := E5
  go_wp2_with fail
  refine (wh_put w base b w.heap.size row S N B Q E F L I ([] ++ be 16716 2 ++ be 1 1 ++ be S 8 ++ be N 4 ++ be B 2) _ Q 1 H5.out (by omega) (by omega) B5.out (by simp [LE.out])).mono ?_
  rintro e w6 ⟨rfl, h⟩
  have H6 : Hid (WH w base b w.heap.size row S N B Q E F L I ([] ++ be 16716 2 ++ be 1 1 ++ be S 8 ++ be N 4 ++ be B 2 ++ be Q 1) w6) := h
  clear h H5 c0 c1 c2 c3 c4 c5 c6 c7
  have E6 := H6.out
  obtain ⟨_, _, ⟨c0, c1, c2, c3, c4, c5, c6, c7⟩, _⟩ := E6
  go_wp2_with fail
  refine (wh_put w base b w.heap.size row S N B Q E F L I ([] ++ be 16716 2 ++ be 1 1 ++ be S 8 ++ be N 4 ++ be B 2 ++ be Q 1) _ E 2 H6.out (by omega) (by omega) B6.out (by simp [LE.out])).mono ?_
  rintro e w7 ⟨rfl, h⟩
  have H7 : Hid (WH w base b w.heap.size row S N B Q E F L I ([] ++ be 16716 2 ++ be 1 1 ++ be S 8 ++ be N 4 ++ be B 2 ++ be Q 1 ++ be E 2) w7) := h
  clear h H6 c0 c1 c2 c3 c4 c5 c6 c7
  have E7 := H7.out
  obtain ⟨_, _, ⟨c0, c1, c2, c3, c4, c5, c6, c7⟩, _⟩ := E7
  go_wp2_with fail
  refine (wh_put w base b w.heap.size row S N B Q E F L I ([] ++ be 16716 2 ++ be 1 1 ++ be S 8 ++ be N 4 ++ be B 2 ++ be Q 1 ++ be E 2) _ F 2 H7.out (by omega) (by omega) B7.out (by simp [LE.out])).mono ?_
  rintro e w8 ⟨rfl, h⟩
  have H8 : Hid (WH w base b w.heap.size row S N B Q E F L I ([] ++ be 16716 2 ++ be 1 1 ++ be S 8 ++ be N 4 ++ be B 2 ++ be Q 1 ++ be E 2 ++ be F 2) w8) := h
  clear h H7 c0 c1 c2 c3 c4 c5 c6 c7
  have E8 := H8.out
  obtain ⟨_, _, ⟨c0, c1, c2, c3, c4, c5, c6, c7⟩, _⟩ := E8
  go_wp2_with fail
  refine (wh_put w base b w.heap.size row S N B Q E F L I ([] ++ be 16716 2 ++ be 1 1 ++ be S 8 ++ be N 4 ++ be B 2 ++ be Q 1 ++ be E 2 ++ be F 2) _ L 8 H8.out (by omega) (by omega) B8.out (by simp [LE.out])).mono ?_
  rintro e w9 ⟨rfl, h⟩
  have H9 : Hid (WH w base b w.heap.size row S N B Q E F L I ([] ++ be 16716 2 ++ be 1 1 ++ be S 8 ++ be N 4 ++ be B 2 ++ be Q 1 ++ be E 2 ++ be F 2 ++ be L 8) w9) := h
  clear h H8 c0 c1 c2 c3 c4 c5 c6 c7
  have E9 := H9.out
  obtain ⟨_, _, ⟨c0, c1, c2, c3, c4, c5, c6, c7⟩, _⟩ := E9
  go_wp2_with fail
  refine (wh_put w base b w.heap.size row S N B Q E F L I ([] ++ be 16716 2 ++ be 1 1 ++ be S 8 ++ be N 4 ++ be B 2 ++ be Q 1 ++ be E 2 ++ be F 2 ++ be L 8) _ I 8 H9.out (by omega) (by omega) B9.out (by simp [LE.out])).mono ?_
  rintro e w10 ⟨rfl, h⟩
  have H10 : Hid (WH w base b w.heap.size row S N B Q E F L I ([] ++ be 16716 2 ++ be 1 1 ++ be S 8 ++ be N 4 ++ be B 2 ++ be Q 1 ++ be E 2 ++ be F 2 ++ be L 8 ++ be I 8) w10) := h
  clear h H9 c0 c1 c2 c3 c4 c5 c6 c7
  go_wp2
  go_end0
  obtain ⟨row', hw', -, -, -, -, hf, hr⟩ := H10.out
  exact ⟨rfl, row', by simpa [headB] using hw', hf, hr⟩

end Go.Proofs.Ytecohgmllmddhaa
