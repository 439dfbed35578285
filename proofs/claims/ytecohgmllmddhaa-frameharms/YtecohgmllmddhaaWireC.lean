/-
  The walks of package wire, third part: Read, the Writer.
-/
import Derived.Test.YtecohgmllmddhaaWireB
import Derived.Deep.RegionHeld3
import Derived.Deep.AppendLies
namespace Go.Proofs.Ytecohgmllmddhaa
open Go.RowKit
set_option linter.unusedVariables false

set_option maxRecDepth 100000 in
set_option maxHeartbeats 1000000 in
/-- Read. -/
theorem read_any (v : Value) (l : List UInt8) (w : World) (hl : Bs w v l) (hl2 : l.length ≤ 1000000) :
    Calls Try.prog 57 #[v] w fun e w' => ∃ r q, e = .returned (.pointer (some ⟨r, 0, none⟩)) ∧ w.heap.size ≤ q ∧ w.heap.size ≤ r ∧ q < w'.heap.size ∧ IsRd w' r q l ∧ Below w.heap.size w w' := by
  have H0 : Hid (Bs w v l) := hl
  have hB := hl
  obtain ⟨hll, ao, cap0, rfl, hnc, hcm, hn0, hcells⟩ := hl
  clear hcells hll hB
  go_enter Try.func57, Try.ntmps57
  go_wp2_with fail
  refine (fresh_any _ l _ H0.out hl2).mono ?_
  rintro e w1 ⟨q, rfl, hq, hown, hbel⟩
  have HO : Hid (Own w1 q l) := hown
  have HF : Hid (w.heap.size ≤ q ∧ Below w.heap.size w w1) := ⟨hq, hbel⟩
  clear hq hown hbel
  go_wp2
  go_ret
  have h1 := HF.out.1
  have h2 := HF.out.2.size
  have h3 := HO.out.lt
  refine ⟨w1.heap.size, q, rfl, h1, h2, by simp; omega, ?_, HF.out.2.alloc h2 _⟩
  refine ⟨by omega, by simp, hl2, 0, by simp, ?_⟩
  intro j u hj
  rw [Nat.zero_add, World.cell?_alloc_past _ _ _ h3]
  exact HO.out.cell j u hj

/-- A Writer at block b, its bytes in 'row'. -/
def IsWr (w : World) (base b : Nat) (row : Option Nat) (l : List UInt8) : Prop :=
  w.frozen? ⟨b, 0, none⟩ = false ∧ base ≤ b ∧ row ≠ some b ∧ ∃ ao cap, w.cell? ⟨b, 0, none⟩ = some (.slice ao l.length cap) ∧ w.ownsRow base 5 1 (.slice ao l.length cap) l.length (l.map bv) ∧ (Value.slice ao l.length cap).ownBlock = row ∧ l.length ≤ cap ∧ cap ≤ maxLen

/-- Of old memory nothing is turned but block b and 'row'. -/
structure Fr (w w' : World) (b : Nat) (row : Option Nat) : Prop where
  os : w'.os = w.os
  tape : w'.tape = w.tape
  output : w'.output = w.output
  size : w.heap.size ≤ w'.heap.size
  block : ∀ k, k < w.heap.size → k ≠ b → some k ≠ row → w'.heap[k]? = w.heap[k]?

theorem Fr.refl (w : World) (b : Nat) (row : Option Nat) : Fr w w b row := ⟨rfl, rfl, rfl, Nat.le_refl _, fun _ _ _ _ => rfl⟩

theorem Fr.below {w w' : World} {b : Nat} {row : Option Nat} (h : Fr w w' b row) {B : Nat} (hB : B ≤ w.heap.size) (hb : B ≤ b) (hr : ∀ k, row = some k → B ≤ k) : Below B w w' :=
  ⟨h.os, h.tape, h.output, h.size, fun k hk => h.block k (by omega) (by omega) (fun e => by have := hr k e.symm; omega)⟩

theorem IsWr.bs {w : World} {base b : Nat} {row : Option Nat} {l : List UInt8} (h : IsWr w base b row l) : ∃ ao cap, w.cell? ⟨b, 0, none⟩ = some (.slice ao l.length cap) ∧ Bs w (.slice ao l.length cap) l := by
  obtain ⟨_, _, _, ao, cap, hc, ho, _⟩ := h
  refine ⟨ao, cap, hc, ?_⟩
  exact owned_sl ho

set_option maxRecDepth 100000 in
set_option maxHeartbeats 1000000 in
/-- Bytes. -/
theorem bytes_any (base b : Nat) (row : Option Nat) (l : List UInt8) (w : World) (h : IsWr w base b row l) (hl2 : l.length ≤ 1000000) :
    Calls Try.prog 54 #[.pointer (some ⟨b, 0, none⟩)] w fun e w' => ∃ q, e = .returned (.slice (some ⟨q, 0, none⟩) l.length l.length) ∧ w.heap.size ≤ q ∧ Own w' q l ∧ Below w.heap.size w w' := by
  obtain ⟨ao, cap, hc, hb⟩ := h.bs
  have H0 : Hid (Bs w (.slice ao l.length cap) l) := hb
  clear hb h
  go_enter Try.func54, Try.ntmps54
  go_wp2_with fail
  refine (fresh_any _ l _ H0.out hl2).mono ?_
  rintro e w1 ⟨q, rfl, hq⟩
  have HQ : Hid (w.heap.size ≤ q ∧ Own w1 q l ∧ Below w.heap.size w w1) := hq
  clear hq
  go_wp2
  go_ret
  exact ⟨q, rfl, HQ.out⟩

/-- A number's bytes, the highest first. -/
def be (n s : Nat) : List UInt8 := (List.range s).map fun i => UInt8.ofNat (n / 2 ^ (8 * (s - 1 - i)))

theorem be_next (l : List UInt8) (n s k : Nat) (h : k < s) : l ++ (be n s).take (k + 1) = (l ++ (be n s).take k) ++ [UInt8.ofNat (n / 2 ^ (8 * (s - 1 - k)))] := by
  have hk : k < (be n s).length := by simp [be]; exact h
  rw [List.take_succ_eq_append_getElem hk, List.append_assoc]
  simp [be]

set_option maxRecDepth 100000 in
set_option maxHeartbeats 1000000 in
/-- Put, refused. -/
theorem put_no (b : Nat) (n : Nat) (s : Int) (w : World) (hn64 : n < 18446744073709551616) (h : ¬ (1 ≤ s ∧ s ≤ 8) ∨ 2 ^ (8 * s.toNat) ≤ n) :
    Calls Try.prog 65 #[.pointer (some ⟨b, 0, none⟩), .int .u64 n, .int .i64 s] w fun e w' => e = .returned (.bool false) ∧ w' = w := by
  by_cases hs : 1 ≤ s ∧ s ≤ 8
  · have hd : decide (1 ≤ s ∧ s ≤ 8) = true := by simpa using hs
    have hbig : 2 ^ (8 * s.toNat) ≤ n := by rcases h with h | h; exact absurd hs h; exact h
    obtain ⟨hs1, hs8⟩ := hs
    have hne : (((n : Int) / 2 ^ (8 * s).toNat) != 0) = true := by
      have e : (8 * s).toNat = 8 * s.toNat := by omega
      have e2 : ((n / 2 ^ (8 * s.toNat) : Nat) : Int) = (n : Int) / 2 ^ (8 * s.toNat) := by simp
      have hp : 0 < n / 2 ^ (8 * s.toNat) := Nat.div_pos hbig (Nat.two_pow_pos _)
      rw [e, ← e2]
      simp
      omega
    clear hbig h
    go_enter Try.func65, Try.ntmps65
    go_wp2_with fail
    refine (size_any s w).mono ?_
    rintro e w1 ⟨rfl, rfl⟩
    rw [hd]
    go_wp2
    go_ret
    exact ⟨rfl, rfl⟩
  · have hd : decide (1 ≤ s ∧ s ≤ 8) = false := by simpa using hs
    clear h hs
    go_enter Try.func65, Try.ntmps65
    go_wp2_with fail
    refine (size_any s w).mono ?_
    rintro e w1 ⟨rfl, rfl⟩
    rw [hd]
    go_wp2
    go_ret
    exact ⟨rfl, rfl⟩

theorem byte_wrap (n D : Nat) : Value.int .u8 (IntKind.u8.wrap ((n : Int) / 2 ^ D)) = bv (UInt8.ofNat (n / 2 ^ D)) := by
  have e2 : ((n / 2 ^ D : Nat) : Int) = (n : Int) / 2 ^ D := by simp
  rw [IntKind.wrap_u8', ← e2]
  simp [bv]

theorem fr_trans {a b' c : World} {b : Nat} {row row' row2 : Option Nat} (h : Fr a b' b row) (hr : row' = row ∨ ∃ k, row' = some k ∧ a.heap.size ≤ k) (k : Fr b' c b row') (kr : row2 = row' ∨ ∃ k, row2 = some k ∧ b'.heap.size ≤ k) :
    Fr a c b row ∧ (row2 = row ∨ ∃ k, row2 = some k ∧ a.heap.size ≤ k) := by
  refine ⟨⟨k.os.trans h.os, k.tape.trans h.tape, k.output.trans h.output, Nat.le_trans h.size k.size, fun i hi hb hro => ?_⟩, ?_⟩
  · refine (k.block i (Nat.lt_of_lt_of_le hi h.size) hb ?_).trans (h.block i hi hb hro)
    rcases hr with rfl | ⟨m, rfl, hm⟩
    · exact hro
    · intro e
      injection e with e
      omega
  · rcases kr with rfl | ⟨m, rfl, hm⟩
    · exact hr
    · exact .inr ⟨m, rfl, Nat.le_trans h.size hm⟩

/-- One append behind the Writer's field. -/
theorem wr_step {wr w2 : World} {o : Obj} {base b N M cap c1 : Nat} {ao a1 : Option Addr} {row' : Option Nat} {T : List UInt8}
    (hf : wr.frozen? ⟨b, 0, none⟩ = false) (hbb : base ≤ b) (hrb : row' ≠ some b) (hc : wr.cell? ⟨b, 0, none⟩ = some (.slice ao N cap)) (hbl : b < wr.heap.size)
    (hM : M = T.length) (ho : w2.ownsRow base 5 1 (.slice a1 M c1) M (T.map bv)) (hgrow : (wr.alloc o).drew.grownBy w2 (Value.slice ao N cap).ownBlock)
    (hnc : M ≤ c1) (hcm : c1 ≤ maxLen) {hrw : (Value.slice ao N cap).ownBlock = row'} {hat : (Value.slice a1 M c1).ownBlock = (Value.slice ao N cap).ownBlock ∨ (Value.slice a1 M c1).ownBlock = some (wr.alloc o).drew.heap.size} :
    ∃ row2, IsWr (w2.setCell ⟨b, 0, none⟩ (.slice a1 M c1)) base b row2 T ∧ Fr wr (w2.setCell ⟨b, 0, none⟩ (.slice a1 M c1)) b row' ∧ (row2 = row' ∨ ∃ k, row2 = some k ∧ wr.heap.size ≤ k) := by
  have hsz : (wr.alloc o).drew.heap.size = wr.heap.size + 1 := by simp
  have hcb : w2.cell? ⟨b, 0, none⟩ = wr.cell? ⟨b, 0, none⟩ := by
    rw [hgrow.cell_far ⟨b, 0, none⟩ (by rw [hsz]; show b < _; omega) (by rw [hrw]; exact Ne.symm hrb)]
    exact World.cell?_alloc_past _ _ _ hbl
  have hfb : w2.frozen? ⟨b, 0, none⟩ = false := by
    rw [hgrow.frozen_far ⟨b, 0, none⟩ (by rw [hsz]; show b < _; omega) (by rw [hrw]; exact Ne.symm hrb)]
    exact (World.frozen?_alloc_past _ _ _ hbl).trans hf
  have hnb : (Value.slice a1 M c1).ownBlock ≠ some b := by
    rcases hat with e | e
    · rw [e, hrw]; exact hrb
    · rw [e, hsz]; intro e; injection e with e; omega
  have hs := grown_setCell w2 b 0 (.slice a1 M c1)
  subst hM
  refine ⟨(Value.slice a1 T.length c1).ownBlock, ⟨by simpa using hfb, hbb, hnb, a1, c1, ?_, ho.kept hs (.inr hnb), rfl, hnc, hcm⟩, ?_, ?_⟩
  · exact World.cell?_setCell_same w2 _ _ (hcb.trans hc)
  · refine ⟨hgrow.os, hgrow.tape, hgrow.output, ?_, ?_⟩
    · have := hgrow.size
      have := hs.size
      omega
    · intro k hk hkb hkr
      rw [hs.block k (by have := hgrow.size; omega) (by intro e; injection e with e; exact hkb e)]
      rw [hgrow.block k (by omega) (by rw [hrw]; exact hkr)]
      exact Below.heap_alloc wr o k hk
  · rcases hat with e | e
    · exact .inl (e.trans hrw)
    · exact .inr ⟨_, e, by omega⟩

set_option maxRecDepth 100000 in
set_option maxHeartbeats 1000000 in
/-- Put. -/
theorem put_yes (base b : Nat) (row : Option Nat) (l : List UInt8) (n s : Nat) (w : World) (hw : IsWr w base b row l) (hbase : base ≤ w.heap.size) (h1 : 1 ≤ s) (h8 : s ≤ 8) (hn : n < 2 ^ (8 * s)) (hl2 : l.length ≤ 1000000) :
    Calls Try.prog 65 #[.pointer (some ⟨b, 0, none⟩), .int .u64 n, .int .i64 s] w fun e w' => e = .returned (.bool true) ∧ ∃ row', IsWr w' base b row' (l ++ be n s) ∧ Fr w w' b row ∧ (row' = row ∨ ∃ k, row' = some k ∧ w.heap.size ≤ k) := by
  obtain ⟨i0, hi, hz0, hz1, hz2⟩ := info_parts Try.info5
  have hd : decide ((1 : Int) ≤ (s : Int) ∧ (s : Int) ≤ 8) = true := by simp; omega
  have hn64 : n < 18446744073709551616 := by
    have : (2 : Nat) ^ (8 * s) ≤ 2 ^ 64 := Nat.pow_le_pow_right (by omega) (by omega)
    omega
  have hne : (((n : Int) / 2 ^ (8 * s)) != 0) = false := by
    have e2 : ((n / 2 ^ (8 * s) : Nat) : Int) = (n : Int) / 2 ^ (8 * s) := by simp
    rw [← e2, Nat.div_eq_of_lt hn]
    rfl
  clear hn
  have HW : Hid (IsWr w base b row l) := hw
  clear hw
  go_enter Try.func65, Try.ntmps65
  go_wp2_with fail
  refine (size_any s w).mono ?_
  rintro e w1 ⟨rfl, rfl⟩
  rw [hd]
  go_wp2
  go_loopw [19] (fun i wr => ∃ (k : Nat) (row' : Option Nat), k ≤ s ∧ i = .int .i64 k ∧ IsWr wr base b row' (l ++ (be n s).take k) ∧ Fr w1 wr b row ∧ (row' = row ∨ ∃ k, row' = some k ∧ w1.heap.size ≤ k)) (fun i _ => s - (intOf i).toNat)
  case atStart => exact ⟨0, row, by omega, rfl, by simpa using HW.out, Fr.refl _ _ _, .inl rfl⟩
  case round =>
    obtain ⟨k, row', hk, rfl, hwr, hfr, hrow⟩ := hrel
    have HR : Hid (Fr w1 wr b row ∧ (row' = row ∨ ∃ k, row' = some k ∧ w1.heap.size ≤ k)) := ⟨hfr, hrow⟩
    clear hfr hrow
    by_cases hlt : k < s
    · have hlen : (l ++ (be n s).take k).length = l.length + k := by simp [be]; omega
      have HT : Hid (l ++ (be n s).take (k + 1) = (l ++ (be n s).take k) ++ [UInt8.ofNat (n / 2 ^ (8 * (s - 1 - k)))]) := be_next l n s k hlt
      generalize l ++ (be n s).take k = T at *
      obtain ⟨hf, hbb, hrb, ao, cap, hc, hown, hrw, hcap, hcm⟩ := hwr
      unfold maxLen at hcm
      rw [hlen] at hc hown hrw hcap
      have Hlen : Hid (T.length = l.length + k) := hlen
      clear hlen
      obtain ⟨d, hdd⟩ : ∃ d : Nat, d = s - 1 - k := ⟨_, rfl⟩
      have hw1 : IntKind.i64.wrap ((s : Int) - 1) = (s : Int) - 1 := by rw [IntKind.wrap_i64]; omega
      have hw2 : IntKind.i64.wrap ((s : Int) - 1 - (k : Int)) = (d : Int) := by rw [IntKind.wrap_i64]; omega
      obtain ⟨D, hD⟩ : ∃ D : Nat, D = 8 * d := ⟨_, rfl⟩
      have hw3 : IntKind.i64.wrap (8 * (d : Int)) = (D : Int) := by rw [IntKind.wrap_i64]; omega
      have Hd : Hid (D = 8 * (s - 1 - k)) := by unfold Hid; omega
      have hmin : min D 64 = D := by omega
      clear hdd hD
      have hbl : b < wr.heap.size := cell_block_lt hc
      have hbw : base ≤ wr.heap.size := by have := HR.out.1.size; omega
      have hown1 := (hown.alloc (.cells #[.int .u8 (IntKind.u8.wrap ((n : Int) / 2 ^ D))] 5)).drew
      have hsrc1 : Sl 1 (wr.alloc (.cells #[.int .u8 (IntKind.u8.wrap ((n : Int) / 2 ^ D))] 5)).drew (.slice (some ⟨wr.heap.size, 0, none⟩) 1 1) 1 [.int .u8 (IntKind.u8.wrap ((n : Int) / 2 ^ D))] := alloc_one _ _
      have hone : ∀ u ∈ [Value.int .u8 (IntKind.u8.wrap ((n : Int) / 2 ^ D))], u.oneCell' = true := by intro u hu; simp at hu; subst hu; rfl
      have h63 : l.length + k + 1 ≤ maxLen := by unfold maxLen; omega
      have hby : (l.length + k + 1) * 1 ≤ 140737488355328 := by omega
      have hba : base ≤ (wr.alloc (.cells #[.int .u8 (IntKind.u8.wrap ((n : Int) / 2 ^ D))] 5)).drew.heap.size := by simp; omega
      have H63 : Hid (l.length + k + 1 ≤ maxLen) := h63
      have Hone : Hid (∀ u ∈ [Value.int .u8 (IntKind.u8.wrap ((n : Int) / 2 ^ D))], u.oneCell' = true) := hone
      have Hown1 : Hid ((wr.alloc (.cells #[.int .u8 (IntKind.u8.wrap ((n : Int) / 2 ^ D))] 5)).drew.ownsRow base 5 1 (.slice ao (l.length + k) cap) (l.length + k) (T.map bv)) := hown1
      have Hsrc1 : Hid (Sl 1 (wr.alloc (.cells #[.int .u8 (IntKind.u8.wrap ((n : Int) / 2 ^ D))] 5)).drew (.slice (some ⟨wr.heap.size, 0, none⟩) 1 1) 1 [.int .u8 (IntKind.u8.wrap ((n : Int) / 2 ^ D))]) := hsrc1
      clear h63 hone hown1 hsrc1
      go_wp2
      go_region_law ((refine step_app _ (by rfl) _ _ _ (by rfl) base 5 i0 (.int .u8 0) 1 1 Try.underlying27 hi hz0 hz1 hz2 rfl (by decide) (.slice ao (l.length + k) cap) (l.length + k) (T.map bv) (by rfl) Hown1.out (.slice (some ⟨wr.heap.size, 0, none⟩) 1 1) 1 [.int .u8 (IntKind.u8.wrap ((n : Int) / 2 ^ D))] (by rfl) Hsrc1.out Hone.out H63.out hby hba ?_; intro a1 c1 w2 ho hgrow hat hne2 hnc2 hcm2; have q1 := (hgrow.cell_far ⟨b, 0, none⟩ (by simp; omega) (by rw [hrw]; exact Ne.symm hrb)); have q2 := (hgrow.frozen_far ⟨b, 0, none⟩ (by simp; omega) (by rw [hrw]; exact Ne.symm hrb))))
      all_goals
        go_wp2
        go_roundw
        case rel =>
          have hx : T.map bv ++ [Value.int .u8 (IntKind.u8.wrap ((n : Int) / 2 ^ D))] = (T ++ [UInt8.ofNat (n / 2 ^ (8 * (s - 1 - k)))]).map bv := by rw [byte_wrap, Hd.out]; simp
          rw [hx] at ho
          have R := wr_step (hat := hat) (hrw := hrw) hf hbb hrb hc hbl (by have := Hlen.out; simp; omega) ho hgrow hnc2 hcm2
          rw [← HT.out] at R
          obtain ⟨row2, R1, R2, R3⟩ := R
          have R4 := fr_trans HR.out.1 HR.out.2 R2 R3
          exact ⟨k + 1, row2, by omega, by go_num, R1, R4.1, R4.2⟩
        case measure => simp [intOf]; omega
    · go_wp2
      go_ret
      have e : (be n s).take k = be n s := List.take_of_length_le (by simp [be]; omega)
      rw [e] at hwr
      exact ⟨rfl, row', hwr, HR.out⟩

end Go.Proofs.Ytecohgmllmddhaa
