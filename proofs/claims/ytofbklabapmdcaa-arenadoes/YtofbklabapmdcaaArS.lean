/-
  The walk of the arena statements' first look.
-/
import Derived.Test.YtofbklabapmdcaaArG
namespace Go.Proofs.Ytofbklabapmdcaa
open Go.RowKit
set_option linter.unusedVariables false

theorem freed_live (s : Ar) (k : Nat) (vb : Value) : (s.freed k vb).live = s.live - 1 := by
  unfold Ar.live
  simp [Ar.freed, Ar.setG]
  omega

theorem freed_len (s : Ar) (k : Nat) (vb : Value) : (s.freed k vb).bl.length = s.bl.length := by
  simp [Ar.freed, Ar.setG]

theorem setB_live (s : Ar) (k : Nat) (b : List UInt8) : (s.setB k b).live = s.live := by
  unfold Ar.live
  simp [Ar.setB]

theorem setB_len (s : Ar) (k : Nat) (b : List UInt8) : (s.setB k b).bl.length = s.bl.length := by
  simp [Ar.setB]

theorem IsAr.step {w0 w w' : World} {B a : Nat} {s : Ar} (hb : Below B w0 w) (hA : IsAr w B a s) (hk : KeepsBut (s.own a) w w') (hB : B ≤ w.heap.size) : Below B w0 w' :=
  hb.trans (hk.below hB hA.own_ge)

theorem IsAr.B_le {w : World} {B a : Nat} {s : Ar} (h : IsAr w B a s) : B ≤ w.heap.size := by
  have h1 := h.ha
  have h2 := h.own_lt a (.inl rfl)
  omega

/-- Put of one, whose row was just laid. -/
theorem aput_top (B a : Nat) (s : Ar) (k : Nat) (x : Bk) (vb : Value) (b : List UInt8) (w : World) (h : IsAr w B a s) (hx : s.bl[k]? = some x) (hg : x.g = true) (hb : Bs w vb b) (ho : Off x.q vb) (hlen : b.length = s.size) (r : Nat) (hr : r = w.heap.size) :
    Calls Try.prog 12 #[.pointer (some ⟨a, 0, none⟩), .int .i64 k, .slice (some ⟨r, 0, none⟩) 1 1] (w.alloc (.cells #[vb] 28)) fun e w' => e = .returned (.bool true) ∧ IsAr w' B a (s.setB k (xorL x.b b)) ∧ w.grownBy w' (some x.q) ∧ w'.heap.size = w.heap.size + 1 := by
  subst hr
  have hq := (h.blk k x hx).2.1.lt
  refine (aput_yes B a s k x _ [vb] [b] _ (h.below (below_alloc _ _)) hx hg (alloc_one _ _) (parts_one (hb.below (below_alloc _ _))) (off_at (by omega)) (off_mem1 ho) (fit_one hlen)).mono ?_
  rintro e w' ⟨rfl, h1, h2, h3⟩
  exact ⟨rfl, h1, (World.grownBy_alloc _ _ _).trans h2, by rw [h3]; simp⟩

/-- Put of one that can't be, whose row was just laid. -/
theorem aput_top_no (B a : Nat) (s : Ar) (i : Int) (vb : Value) (b : List UInt8) (w : World) (h : IsAr w B a s) (hb : Bs w vb b) (hn : s.has i = false ∨ b.length ≠ s.size) (r : Nat) (hr : r = w.heap.size) :
    Calls Try.prog 12 #[.pointer (some ⟨a, 0, none⟩), .int .i64 i, .slice (some ⟨r, 0, none⟩) 1 1] (w.alloc (.cells #[vb] 28)) fun e w' => e = .returned (.bool false) ∧ Below w.heap.size w w' := by
  subst hr
  refine (aput_no B a s i _ [vb] [b] _ (h.below (below_alloc _ _)) (alloc_one _ _) (parts_one (hb.below (below_alloc _ _))) (hn.imp id fit_one_no)).mono ?_
  rintro e w' ⟨rfl, rfl⟩
  exact ⟨rfl, below_alloc _ _⟩

set_option maxRecDepth 100000 in
set_option maxHeartbeats 2000000 in
theorem speaks4_any (w : World) : Calls Try.prog 4 #[] w fun e w' => e = .returned (.bool true) ∧ Below w.heap.size w w' := by
  go_enter Try.func4, Try.ntmps4
  go_wp2_with fail
  refine (anew_any 2 1 w (by omega)).mono ?_
  rintro e w1 ⟨rfl, hA1, hb1⟩
  have A1 : Hid (IsAr w1 w.heap.size w.heap.size ⟨2, 1, .slice none 0 0, .slice none 0 0, [], []⟩) := hA1
  have X1 : Hid (Below w.heap.size w w1) := hb1
  clear hA1 hb1
  obtain ⟨a, ha⟩ : ∃ a, w.heap.size = a := ⟨_, rfl⟩
  rw [ha] at A1 X1 ⊢
  have Ha : Hid (w.heap.size = a) := ha
  clear ha
  go_wp2_with fail
  refine (alloc_yes a a _ w1 A1.out (by decide) (by decide)).mono ?_
  rintro e w2 ⟨k, s1, rfl, hA2, hk2, -, hS⟩
  have A2 : Hid (IsAr w2 a a s1) := hA2
  have X2 : Hid (Below a w w2) := A1.out.step X1.out hk2 A1.out.B_le
  have hlen : s1.bl.length = 1 := hS.len
  have hlive : s1.live = 1 := hS.live
  have hsz : s1.size = 2 := hS.size
  have hmo : s1.most = 1 := hS.most
  obtain ⟨q, hq⟩ : ∃ q, s1.bl[k]? = some ⟨q, zeros 2, true⟩ := hS.there
  have P1 : Hid (s1.bl.length = 1 ∧ s1.live = 1 ∧ s1.size = 2 ∧ s1.most = 1 ∧ s1.bl[k]? = some ⟨q, zeros 2, true⟩) := ⟨hlen, hlive, hsz, hmo, hq⟩
  clear hA2 hk2 hS hlen hlive hsz hmo hq A1 X1
  go_wp2_with fail
  refine (alloc_no a a s1 w2 A2.out (by rw [P1.out.2.1, P1.out.2.2.2.1]; decide)).mono ?_
  rintro e w3 ⟨rfl, hb3⟩
  have A3 : Hid (IsAr w3 a a s1) := A2.out.below hb3
  have X3 : Hid (Below a w w3) := X2.out.trans (hb3.mono A2.out.B_le)
  clear hb3 A2 X2
  go_wp2_with fail
  refine (aput_top a a s1 k ⟨q, zeros 2, true⟩ _ [1, 2] _ (A3.out.below (below_alloc _ _)) P1.out.2.2.2.2 rfl (Bs.lit w3 _ _ _ _ _ _ rfl rfl rfl (by simp)) (off_at (by have := (A3.out.blk k _ P1.out.2.2.2.2).2.1.lt; simp at this ⊢; omega)) (by rw [P1.out.2.2.1]; rfl) _ (by simp)).mono ?_
  rintro e w4 ⟨rfl, hA4, hg4, hs4⟩
  have A4 : Hid (IsAr w4 a a (s1.setB k [1, 2])) := hA4
  have X4 : Hid (Below a w w4) := below_grown (X3.out.alloc A3.out.B_le _) hg4 (by have := A3.out.B_le; simp; omega) (A3.out.blk k _ P1.out.2.2.2.2).1
  have P4 : Hid ((s1.setB k [1, 2]).bl[k]? = some ⟨q, [1, 2], true⟩) := by unfold Hid; rw [setB_at, if_pos rfl, P1.out.2.2.2.2]; rfl
  clear hA4 hg4 hs4 A3 X3
  go_wp2_with fail
  refine (get_yes a a _ k _ w4 A4.out P4.out rfl).mono ?_
  rintro e w5 ⟨rfl, hb5, hx5⟩
  have e5 : (s1.setB k [1, 2]).size = 2 := P1.out.2.2.1
  rw [e5]
  have A5 : Hid (IsAr w5 a a (s1.setB k [1, 2])) := A4.out.below hx5
  have X5 : Hid (Below a w w5) := X4.out.trans (hx5.mono A4.out.B_le)
  have B5 : Hid (Blk w5 w4.heap.size [] [1, 2] [] ∧ ¬ (s1.setB k [1, 2]).own a w4.heap.size) := ⟨hb5, fun h => by have := A4.out.own_lt _ h; omega⟩
  clear hb5 hx5 e5 A4 X4
  go_wp2_with fail
  refine (free_yes a a _ k _ w5 A5.out P4.out rfl (by rw [setB_len, P1.out.1]; decide)).mono ?_
  rintro e w6 ⟨rfl, vb, hA6, hk6, hv6⟩
  have A6 : Hid (IsAr w6 a a ((s1.setB k [1, 2]).freed k vb)) := hA6
  have X6 : Hid (Below a w w6) := A5.out.step X5.out hk6 A5.out.B_le
  have B6 : Hid (Blk w6 w4.heap.size [] [1, 2] []) := B5.out.1.kept (hk6.block _ B5.out.1.lt B5.out.2)
  have N6 : Hid (¬ ((s1.setB k [1, 2]).freed k vb).own a w4.heap.size) := by
    intro h
    rcases h with h | h | h | ⟨x, hx, h⟩
    · exact B5.out.2 (.inl h)
    · exact B5.out.2 (.inr (.inl h))
    · rcases hv6 with h1 | ⟨q', h1, h2⟩
      · exact B5.out.2 (.inr (.inr (.inl (by rw [← h1]; exact h))))
      · have h' : vb.ownBlock = some w4.heap.size := h
        rw [h1] at h'
        obtain rfl := Option.some.inj h'
        have := B5.out.1.lt
        omega
    · obtain ⟨i, hi, rfl⟩ := List.mem_iff_getElem.1 hx
      obtain ⟨y, hy, e1, _⟩ := setG_look (List.getElem?_eq_getElem hi)
      exact B5.out.2 (.inr (.inr (.inr ⟨y, List.mem_of_getElem? hy, by rw [e1]; exact h⟩)))
  have L6 : Hid (((s1.setB k [1, 2]).freed k vb).live = 0 ∧ ((s1.setB k [1, 2]).freed k vb).bl.length = 1 ∧ ((s1.setB k [1, 2]).freed k vb).most = 1 ∧ ((s1.setB k [1, 2]).freed k vb).size = 2 ∧ ((s1.setB k [1, 2]).freed k vb).back ≠ []) := by
    refine ⟨by rw [freed_live, setB_live, P1.out.2.1]; rfl, by rw [freed_len, setB_len, P1.out.1], P1.out.2.2.2.1, P1.out.2.2.1, ?_⟩
    show s1.back ++ [k] ≠ []
    simp
  clear hA6 hk6 hv6 A5 X5 B5 P4 P1
  generalize (s1.setB k [1, 2]).freed k vb = s2 at *
  go_wp2_with fail
  refine (alloc_yes a a s2 w6 A6.out (by rw [L6.out.1, L6.out.2.2.1]; decide) (by rw [L6.out.2.1]; decide)).mono ?_
  rintro e w7 ⟨k7, s7, rfl, hA7, hk7, -, hS7⟩
  have A7 : Hid (IsAr w7 a a s7) := hA7
  have X7 : Hid (Below a w w7) := A6.out.step X6.out hk7 A6.out.B_le
  have B7 : Hid (Blk w7 w4.heap.size [] [1, 2] []) := B6.out.kept (hk7.block _ B6.out.lt N6.out)
  obtain ⟨q7, hq7⟩ := hS7.there
  have P7 : Hid (s7.bl.length = 1 ∧ s7.live = 1 ∧ s7.size = 2 ∧ s7.has (k7 : Int) = true ∧ zeroB (s7.bytes (k7 : Int)) = true) := by
    refine ⟨?_, ?_, ?_, has_mk hq7 rfl, ?_⟩
    · rw [hS7.len, if_neg L6.out.2.2.2.2, L6.out.2.1]
    · rw [hS7.live, L6.out.1]; rfl
    · rw [hS7.size, L6.out.2.2.2.1]
    · unfold Ar.bytes
      simp [hq7, zeroB_zeros]
  clear hA7 hk7 hS7 hq7 A6 X6 B6 N6 L6
  have k1 := conv_bytes (B7.out.bs0 2 2 rfl (by simp) (by simp [maxLen]))
  have hst := str_toList
  generalize w4.heap.size = q4 at *
  go_wp2_with fail
  refine (azero_any a a s7 _ w7 A7.out).mono ?_
  rintro e w8 ⟨rfl, rfl⟩
  rw [P7.out.2.2.2.1, P7.out.2.2.2.2]
  clear k1 hst
  go_wp2_with fail
  refine (alive_any a a s7 _ A7.out).mono ?_
  rintro e w9 ⟨rfl, n9, hw9⟩
  have X9 : Hid (Below a w w9) := by rw [hw9]; exact below_drewN X7.out n9
  have A9 : Hid (IsAr w9 a a s7) := by rw [hw9]; exact A7.out.below (below_drewN (Below.refl _ _) n9)
  have e9 : (s7.bl.length : Int) - (s7.back.length : Int) = 1 := P7.out.2.1
  rw [e9]
  clear hw9 e9
  go_wp2_with fail
  refine (apeak_any a a s7 _ A9.out).mono ?_
  rintro e w10 ⟨rfl, rfl⟩
  rw [P7.out.1]
  go_wp2_with fail
  refine (asize_any a a s7 _ A9.out).mono ?_
  rintro e w11 ⟨rfl, rfl⟩
  rw [P7.out.2.2.1]
  go_wp2
  go_ret
  exact ⟨rfl, by rw [Ha.out]; exact X9.out⟩

end Go.Proofs.Ytofbklabapmdcaa
