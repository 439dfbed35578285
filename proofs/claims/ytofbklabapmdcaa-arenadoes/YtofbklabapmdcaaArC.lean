/-
  The walks of package arena, third part: Get, Put, Onto.
-/
import Derived.Test.YtofbklabapmdcaaArB
import Derived.Deep.CutRange
namespace Go.Proofs.Ytofbklabapmdcaa
open Go.RowKit
set_option linter.unusedVariables false

set_option maxRecDepth 100000 in
set_option maxHeartbeats 400000 in
/-- Get of a block that isn't given out: none. -/
theorem get_no (B a : Nat) (s : Ar) (i : Int) (w : World) (h : IsAr w B a s) (hh : s.has i = false) :
    Calls Try.prog 21 #[.pointer (some ⟨a, 0, none⟩), .int .i64 i] w fun e w' => e = .returned (.slice none 0 0) ∧ w' = w := by
  have HA : Hid (IsAr w B a s) := h
  clear h
  go_enter Try.func21, Try.ntmps21
  go_wp2_with fail
  refine (has_any B a s i w HA.out).mono ?_
  rintro e w1 ⟨rfl, rfl⟩
  rw [hh]
  go_wp2
  go_ret
  exact ⟨rfl, rfl⟩

set_option maxRecDepth 100000 in
set_option maxHeartbeats 400000 in
/-- Get of a block that is given out: its bytes as a new block. -/
theorem get_yes (B a : Nat) (s : Ar) (k : Nat) (x : Bk) (w : World) (h : IsAr w B a s) (hx : s.bl[k]? = some x) (hg : x.g = true) :
    Calls Try.prog 21 #[.pointer (some ⟨a, 0, none⟩), .int .i64 k] w fun e w' => e = .returned (.slice (some ⟨w.heap.size, 0, none⟩) s.size s.size) ∧ Blk w' w.heap.size [] x.b [] ∧ Below w.heap.size w w' := by
  obtain ⟨i0, hi, hz0, hz1, hz2⟩ := info_parts Try.infoByte
  have HA : Hid (IsAr w B a s) := h
  have HL : Hid (x.b.length = s.size) := (h.blk k x hx).2.2
  have HB : Hid (Bs w (.slice (some ⟨x.q, 0, none⟩) s.size s.size) x.b) := (h.blk k x hx).2.1.bs0 _ _ (h.blk k x hx).2.2.symm (Nat.le_refl _) (by have := h.small; unfold maxLen; omega)
  have HH : Hid (s.has (k : Int) = true) := has_mk hx hg
  have hk : k < s.bl.length := (List.getElem?_eq_some_iff.1 hx).1
  have hsm := h.small
  have c0 := h.cell0
  have c2 := h.cell2
  obtain ⟨g, cap', hv', hnc', hcm', c4, c5, hfr⟩ := h.slot hx
  rw [hv'] at c2
  have HC : Hid (w.cell? ⟨a, 2, none⟩ = some (.slice (some ⟨g, 0, none⟩) s.bl.length cap') ∧ w.cell? ⟨g, k * 2, none⟩ = some (.slice (some ⟨x.q, 0, none⟩) s.size s.size)) := ⟨c2, c4⟩
  clear h hfr c5 hx hg hv' hcm' c2 c4
  generalize s.bl.length = n at *
  generalize hsz : s.size = z at *
  go_enter Try.func21, Try.ntmps21
  go_wp2_with fail
  refine (has_any B a s k w HA.out).mono ?_
  rintro e w1 ⟨rfl, rfl⟩
  rw [HH.out]
  go_upto_region 4 with (at_make; refine wpList_make_full _ rfl _ _ 28 rfl w1.heap.size 5 i0 (.int .u8 0) 1 Try.underlying28 hi hz0 hz1 _ _ _ _ z rfl rfl rfl rfl (by rw [hz2]; omega) (by unfold maxLen; omega) (Nat.le_refl _) ?_; intro w2 ho hgrow)
  have B2 : Hid (Blk w2 w1.heap.size [] (zeros z) []) := made_blk ho
  have X2 : Hid (Below w1.heap.size w1 w2) := below_new hgrow
  have c2 : w2.cell? ⟨a, 2, none⟩ = some (.slice (some ⟨g, 0, none⟩) n cap') := (X2.out.cell (cell_block_lt HC.out.1)).trans HC.out.1
  have c4 : w2.cell? ⟨g, k * 2, none⟩ = some (.slice (some ⟨x.q, 0, none⟩) z z) := (X2.out.cell (cell_block_lt HC.out.2)).trans HC.out.2
  have S2 : Hid (Bs w2 (.slice (some ⟨x.q, 0, none⟩) z z) x.b) := HB.out.below X2.out
  clear ho hgrow
  go_wp2_with (refine wpList_copyB _ rfl (.tmp 15) (.tmp 23) rfl w1.heap.size z z (zeros z) x.b _ rfl rfl B2.out S2.out (zeros_length z).symm (by rw [HL.out, zeros_length]) w1.heap.size w1 X2.out (Nat.le_refl _) ?_; intro w3 hb3 hx3)
  have R3 : Hid (Blk w3 w1.heap.size [] x.b [] ∧ Below w1.heap.size w1 w3) := ⟨hb3, hx3⟩
  clear hb3 hx3
  go_wp2
  go_ret
  exact ⟨rfl, R3.out⟩

set_option maxRecDepth 100000 in
set_option maxHeartbeats 400000 in
/-- Put where it can't be: nothing. -/
theorem aput_no (B a : Nat) (s : Ar) (i : Int) (pv : Value) (vs : List Value) (ls : List (List UInt8)) (w : World) (h : IsAr w B a s) (hp : Sl 1 w pv vs.length vs) (hps : Parts w vs ls) (hn : s.has i = false ∨ fitB s.size ls = false) :
    Calls Try.prog 12 #[.pointer (some ⟨a, 0, none⟩), .int .i64 i, pv] w fun e w' => e = .returned (.bool false) ∧ w' = w := by
  have HA : Hid (IsAr w B a s) := h
  have HP : Hid (Sl 1 w pv vs.length vs) := hp
  have HPS : Hid (Parts w vs ls) := hps
  obtain ⟨-, ao, cap, rfl, -, -, -, -⟩ := hp
  cases hh : s.has i with
  | false =>
    clear h hps hn
    go_enter Try.func12, Try.ntmps12
    go_wp2_with fail
    refine (has_any B a s i w HA.out).mono ?_
    rintro e w1 ⟨rfl, rfl⟩
    rw [hh]
    go_wp2
    go_ret
    exact ⟨rfl, rfl⟩
  | true =>
    have HF : Hid (fitB s.size ls = false) := by
      rcases hn with h1 | h1
      · rw [hh] at h1; cases h1
      · exact h1
    obtain ⟨k, x, rfl, hx, hg⟩ := has_iff hh
    have HH : Hid (s.has (k : Int) = true) := hh
    have hk : k < s.bl.length := (List.getElem?_eq_some_iff.1 hx).1
    have c2 := h.cell2
    obtain ⟨g, cap', hv', hnc', hcm', c4, c5, hfr⟩ := h.slot hx
    rw [hv'] at c2
    clear h hfr c5 hx hg hv' hcm' hps hn hh
    generalize s.bl.length = n at *
    go_enter Try.func12, Try.ntmps12
    go_wp2_with fail
    refine (has_any B a s k w HA.out).mono ?_
    rintro e w1 ⟨rfl, rfl⟩
    rw [HH.out]
    go_wp2_with fail
    refine (xor_no _ s.size s.size _ vs ls _ HP.out HPS.out HF.out).mono ?_
    rintro e w2 ⟨rfl, rfl⟩
    go_wp2
    go_ret
    exact ⟨rfl, rfl⟩

set_option maxRecDepth 100000 in
set_option maxHeartbeats 400000 in
/-- Put: all parts upon a block; nothing else is turned. -/
theorem aput_yes (B a : Nat) (s : Ar) (k : Nat) (x : Bk) (pv : Value) (vs : List Value) (ls : List (List UInt8)) (w : World) (h : IsAr w B a s) (hx : s.bl[k]? = some x) (hg : x.g = true)
    (hp : Sl 1 w pv vs.length vs) (hps : Parts w vs ls) (hop : Off x.q pv) (hos : ∀ v ∈ vs, Off x.q v) (hf : fitB s.size ls = true) :
    Calls Try.prog 12 #[.pointer (some ⟨a, 0, none⟩), .int .i64 k, pv] w fun e w' => e = .returned (.bool true) ∧ IsAr w' B a (s.setB k (xorAll x.b ls)) ∧ w.grownBy w' (some x.q) ∧ w'.heap.size = w.heap.size := by
  have HA : Hid (IsAr w B a s) := h
  have HX : Hid (s.bl[k]? = some x) := hx
  have HL : Hid (x.b.length = s.size) := (h.blk k x hx).2.2
  have HB : Hid (Blk w x.q [] x.b []) := (h.blk k x hx).2.1
  have HH : Hid (s.has (k : Int) = true) := has_mk hx hg
  have HC : Hid (Calls Try.prog 26 #[.slice (some ⟨x.q, 0, none⟩) s.size s.size, pv] w fun e w' => e = .returned (.bool true) ∧ Blk w' x.q [] (xorAll x.b ls) [] ∧ w.grownBy w' (some x.q) ∧ w'.heap.size = w.heap.size) := by
    have hc := xor_yes x.q s.size [] [] x.b pv vs ls w HB.out (by rw [HL.out]; exact Nat.le_refl _) (by have := h.small; unfold maxLen; omega) hp hps hop hos (by rw [HL.out]; exact hf)
    rw [HL.out] at hc
    exact hc
  have HLX : Hid ((xorAll x.b ls).length = s.size) := by
    unfold Hid
    rw [xorAll_length (fun y hy => by rw [HL.out]; exact fitB_mem hf hy), HL.out]
  have hk : k < s.bl.length := (List.getElem?_eq_some_iff.1 hx).1
  obtain ⟨-, ao, cap, rfl, -, -, -, -⟩ := hp
  have c2 := h.cell2
  obtain ⟨g, cap', hv', hnc', hcm', c4, c5, hfr⟩ := h.slot hx
  rw [hv'] at c2
  clear h hfr c5 hx hg hv' hcm' hps hop hos hf
  generalize s.bl.length = n at *
  go_enter Try.func12, Try.ntmps12
  go_wp2_with fail
  refine (has_any B a s k w HA.out).mono ?_
  rintro e w1 ⟨rfl, rfl⟩
  rw [HH.out]
  go_wp2_with fail
  refine HC.out.mono ?_
  rintro e w2 ⟨rfl, hb2, hg2, hs2⟩
  have R : Hid (IsAr w2 B a (s.setB k (xorAll x.b ls)) ∧ w1.grownBy w2 (some x.q) ∧ w2.heap.size = w1.heap.size) := ⟨HA.out.setB HX.out hg2 hb2 HLX.out, hg2, hs2⟩
  clear hb2 hg2 hs2 HC
  go_wp2
  go_ret
  exact ⟨rfl, R.out⟩

set_option maxRecDepth 100000 in
set_option maxHeartbeats 400000 in
/-- Onto where it can't be: nothing. -/
theorem onto_no (B a : Nat) (s : Ar) (ti fr : Int) (w : World) (h : IsAr w B a s) (hn : ti = fr ∨ s.has fr = false ∨ s.has ti = false) :
    Calls Try.prog 13 #[.pointer (some ⟨a, 0, none⟩), .int .i64 ti, .int .i64 fr] w fun e w' => e = .returned (.bool false) ∧ Below w.heap.size w w' := by
  have HA : Hid (IsAr w B a s) := h
  by_cases he : ti = fr
  · subst he
    clear h hn
    go_enter Try.func13, Try.ntmps13
    go_wp2
    go_ret
    exact ⟨rfl, Below.refl _ _⟩
  have he' : (ti == fr) = false := by simpa using he
  cases hh : s.has fr with
  | false =>
    clear h hn
    go_enter Try.func13, Try.ntmps13
    go_wp2_with fail
    refine (has_any B a s fr w HA.out).mono ?_
    rintro e w1 ⟨rfl, rfl⟩
    rw [hh]
    go_wp2
    go_ret
    exact ⟨rfl, Below.refl _ _⟩
  | true =>
    have HT : Hid (s.has ti = false) := by
      rcases hn with h1 | h1 | h1
      · exact absurd h1 he
      · rw [hh] at h1; cases h1
      · exact h1
    obtain ⟨k, x, rfl, hx, hg⟩ := has_iff hh
    have HH : Hid (s.has (k : Int) = true) := hh
    have HB : Hid (Bs w (.slice (some ⟨x.q, 0, none⟩) s.size s.size) x.b) := (h.blk k x hx).2.1.bs0 _ _ (h.blk k x hx).2.2.symm (Nat.le_refl _) (by have := h.small; unfold maxLen; omega)
    have hk : k < s.bl.length := (List.getElem?_eq_some_iff.1 hx).1
    have c2 := h.cell2
    obtain ⟨g, cap', hv', hnc', hcm', c4, c5, hfr⟩ := h.slot hx
    rw [hv'] at c2
    clear h hfr c5 hx hg hv' hcm' hn hh
    generalize s.bl.length = n at *
    go_enter Try.func13, Try.ntmps13
    go_wp2_with fail
    refine (has_any B a s k w HA.out).mono ?_
    rintro e w1 ⟨rfl, rfl⟩
    rw [HH.out]
    go_wp2_with fail
    refine (aput_no B a s ti _ [_] [x.b] _ (HA.out.below (below_alloc _ _)) (alloc_one _ _) (parts_one (HB.out.below (below_alloc _ _))) (.inl HT.out)).mono ?_
    rintro e w2 ⟨rfl, hw2⟩
    have X2 : Hid (Below w1.heap.size w1 w2) := by rw [hw2]; exact below_alloc _ _
    clear hw2
    go_wp2
    go_ret
    exact ⟨rfl, X2.out⟩

set_option maxRecDepth 100000 in
set_option maxHeartbeats 400000 in
/-- Onto: a block upon another one; nothing else is turned. -/
theorem onto_yes (B a : Nat) (s : Ar) (t k : Nat) (y x : Bk) (w : World) (h : IsAr w B a s) (hne : t ≠ k) (hy : s.bl[t]? = some y) (hyg : y.g = true) (hx : s.bl[k]? = some x) (hg : x.g = true) :
    Calls Try.prog 13 #[.pointer (some ⟨a, 0, none⟩), .int .i64 t, .int .i64 k] w fun e w' => e = .returned (.bool true) ∧ IsAr w' B a (s.setB t (xorL y.b x.b)) ∧ w.grownBy w' (some y.q) ∧ w'.heap.size = w.heap.size + 1 := by
  have HA : Hid (IsAr w B a s) := h
  have HY : Hid (s.bl[t]? = some y ∧ y.g = true) := ⟨hy, hyg⟩
  have HH : Hid (s.has (k : Int) = true) := has_mk hx hg
  have HB : Hid (Bs w (.slice (some ⟨x.q, 0, none⟩) s.size s.size) x.b) := (h.blk k x hx).2.1.bs0 _ _ (h.blk k x hx).2.2.symm (Nat.le_refl _) (by have := h.small; unfold maxLen; omega)
  have HL : Hid (x.b.length = s.size) := (h.blk k x hx).2.2
  have HQ : Hid (x.q ≠ y.q ∧ y.q < w.heap.size) := ⟨fun e => hne (h.apart t k y x hy hx e.symm), (h.blk t y hy).2.1.lt⟩
  have hk : k < s.bl.length := (List.getElem?_eq_some_iff.1 hx).1
  have he' : ((t : Int) == (k : Int)) = false := by simp; omega
  have c2 := h.cell2
  obtain ⟨g, cap', hv', hnc', hcm', c4, c5, hfr⟩ := h.slot hx
  rw [hv'] at c2
  clear h hfr c5 hx hg hv' hcm' hy hyg
  generalize s.bl.length = n at *
  go_enter Try.func13, Try.ntmps13
  go_wp2_with fail
  refine (has_any B a s k w HA.out).mono ?_
  rintro e w1 ⟨rfl, rfl⟩
  rw [HH.out]
  go_wp2_with fail
  refine (aput_yes B a s t y _ [_] [x.b] _ (HA.out.below (below_alloc _ _)) HY.out.1 HY.out.2 (alloc_one _ _) (parts_one (HB.out.below (below_alloc _ _))) (off_at (by have := HQ.out.2; omega)) (off_mem1 (off_at HQ.out.1)) (fit_one HL.out)).mono ?_
  rintro e w2 ⟨rfl, h2, hg2, hs2⟩
  have R : Hid (IsAr w2 B a (s.setB t (xorL y.b x.b)) ∧ w1.grownBy w2 (some y.q) ∧ w2.heap.size = w1.heap.size + 1) := ⟨h2, (World.grownBy_alloc _ _ _).trans hg2, by rw [hs2]; simp⟩
  clear h2 hg2 hs2
  go_wp2
  go_ret
  exact ⟨ret_bool (by simp; omega), R.out⟩

end Go.Proofs.Ytofbklabapmdcaa
