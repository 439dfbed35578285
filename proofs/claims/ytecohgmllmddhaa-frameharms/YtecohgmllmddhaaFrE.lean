/-
  The walk of package frame: readHead.
-/
import Derived.Test.YtecohgmllmddhaaFrD
namespace Go.Proofs.Ytecohgmllmddhaa
open Go.RowKit
set_option linter.unusedVariables false

/-- The header's values that a head's bytes say; zero, where they say none. -/
def headV (l : List UInt8) : Array Value :=
  if headE l = 0 then #[.int .u64 (num l 3 8), .int .i64 (num l 11 4), .int .i64 (num l 15 2), .int .i64 (num l 17 1), .int .i64 (num l 18 2), .int .i64 (num l 20 2), .int .i64 (asInt (num l 22 8)), .int .u64 (num l 30 8)]
  else #[.int .u64 0, .int .i64 0, .int .i64 0, .int .i64 0, .int .i64 0, .int .i64 0, .int .i64 0, .int .u64 0]

theorem ret_head {l : List UInt8} {n : Int} {c : Array Value} (h : headE l = n) (hc : headV l = c) : Ending.returned (.tuple #[.agg c, .int .i64 n]) = .returned (.tuple #[.agg (headV l), .int .i64 (headE l)]) := by rw [h, hc]

theorem u64_ne {a b : Nat} (h : a ≠ b) : ((a : Int) == (b : Int)) = false := by simp; omega

set_option maxRecDepth 100000 in
set_option maxHeartbeats 4000000 in
/-- readHead. -/
theorem rhead_any (l : List UInt8) (v : Value) (w : World) (hl : Bs w v l) (h38 : l.length = 38) :
    Calls Try.prog 41 #[v] w fun e w' => e = .returned (.tuple #[.agg (headV l), .int .i64 (headE l)]) ∧ Below w.heap.size w w' := by
  have HB : Hid (Bs w v l) := hl
  have HL : Hid (l.length = 38) := h38
  obtain ⟨-, a0, k0, rfl, -, -, -, -⟩ := hl
  clear h38
  go_enter Try.func41, Try.ntmps41
  go_wp2_with fail
  refine (read_any _ l _ (HB.out.below (below_alloc _ _)) (by rw [HL.out]; omega)).mono ?_
  rintro e w1 ⟨r, q, rfl, hq, hr, hq2, hrd, hb1⟩
  rw [World.size_alloc] at hq hr hb1
  have H2 : Hid (RH w w.heap.size w1.heap.size r q w.heap.size l 0 (w1.alloc (.cells #[.pointer (some ⟨r, 0, none⟩)] 113))) := by
    have hE := (eight_new w 26 0 0 0 0 0 0 0 0)
    have hF : ∀ i, (w.alloc (.cells #[.int .u64 0, .int .i64 0, .int .i64 0, .int .i64 0, .int .i64 0, .int .i64 0, .int .i64 0, .int .u64 0] 26)).frozen? ⟨w.heap.size, i, none⟩ = false := fun i => by simp
    have hlt := hrd.lt
    have hs := hb1.size
    rw [World.size_alloc] at hs
    have hbb := hb1.block w.heap.size (by omega)
    have hEb : Eight w1 w.heap.size 0 0 0 0 0 0 0 0 := hE.kept hbb
    have hFb : ∀ i, w1.frozen? ⟨w.heap.size, i, none⟩ = false := fun i => (World.frozen?_of_block (a := ⟨w.heap.size, i, none⟩) hbb).trans (hF i)
    have ha : Below w1.heap.size w1 (w1.alloc (.cells #[.pointer (some ⟨r, 0, none⟩)] 113)) := below_alloc _ _
    refine ⟨?_, by simp, hEb.below ha, fun i => (World.frozen?_of_block (a := ⟨w.heap.size, i, none⟩) (ha.block w.heap.size (by omega))).trans (hFb i), by omega, by omega, ?_, by omega⟩
    · rw [List.drop_zero]
      exact hrd.kept (ha.block _ hlt) (ha.block _ hq2)
    · exact ((below_alloc _ _).trans (hb1.mono (by omega))).trans (ha.mono (by omega))
  have K2 : Hid (w.heap.size < w1.heap.size ∧ r < w1.heap.size ∧ q < w1.heap.size ∧ w.heap.size + 1 ≤ q) := by
    have hlt := hrd.lt
    have hs := hb1.size
    rw [World.size_alloc] at hs
    exact ⟨by omega, by omega, hq2, by omega⟩
  clear hq hr hq2 hrd hb1
  go_wp2_with fail
  obtain ⟨c, hc⟩ : ∃ c, w1.heap.size = c := ⟨_, rfl⟩
  rw [hc] at H2 K2 ⊢
  have C2 : Hid ((w1.alloc (.cells #[.pointer (some ⟨r, 0, none⟩)] 113)).heap.size = c + 1) := by unfold Hid; simp [hc]
  clear hc
  generalize w1.alloc (.cells #[.pointer (some ⟨r, 0, none⟩)] 113) = w2 at *
  refine (next_any w w.heap.size c r q w.heap.size l 0 2 w2 H2.out (by omega) (by omega) (by rw [HL.out]; omega)).mono ?_
  rintro e w3 ⟨rfl, h3, -, hs3⟩
  have H3 : Hid (RH w w.heap.size c r q w.heap.size l 2 w3) := h3
  have C3 : Hid (w3.heap.size = c + 1) := by unfold Hid; rw [hs3, C2.out]
  clear h3 hs3 H2 C2
  by_cases hm : num l 0 2 = 16716
  · have HM : Hid (num l 0 2 = 16716) := hm
    rw [hm]
    clear hm
    go_wp2_with fail
    refine (next_any w w.heap.size c r q w.heap.size l 2 1 w3 H3.out (by omega) (by omega) (by rw [HL.out]; omega)).mono ?_
    rintro e w4 ⟨rfl, h4, -, hs4⟩
    have H4 : Hid (RH w w.heap.size c r q w.heap.size l 3 w4) := h4
    have C4 : Hid (w4.heap.size = c + 1) := by unfold Hid; rw [hs4, C3.out]
    clear h4 hs4 H3 C3
    by_cases hv : num l 2 1 = 1
    · have HV : Hid (num l 2 1 = 1) := hv
      rw [hv]
      clear hv
      go_wp2_with fail
      have hb5 : Below w4.heap.size w4 (w4.alloc (.cells #[.int .u64 0, .int .i64 0, .int .i64 0, .int .i64 0, .int .i64 0, .int .i64 0, .int .i64 0, .int .u64 0] 26)) := below_alloc _ _
      have R0 : Hid (RX w w.heap.size c r q w.heap.size w4.heap.size l 3 0 0 0 0 0 0 0 0 (w4.alloc (.cells #[.int .u64 0, .int .i64 0, .int .i64 0, .int .i64 0, .int .i64 0, .int .i64 0, .int .i64 0, .int .u64 0] 26))) := by
        have k1 := K2.out
        have k2 := C4.out
        exact ⟨H4.out.below (by omega) (by omega) hb5, eight_new _ _ _ _ _ _ _ _ _ _, fun i => by simp, by omega, by omega, by omega, by omega, by omega⟩
      clear hb5 H4
      have HC4 : Hid (w4.heap.size = c + 1) := C4.out
      obtain ⟨hb, hhb⟩ : ∃ hb, w4.heap.size = hb := ⟨_, rfl⟩
      rw [hhb] at R0 ⊢
      clear hhb C4
      generalize w4.alloc (.cells #[.int .u64 0, .int .i64 0, .int .i64 0, .int .i64 0, .int .i64 0, .int .i64 0, .int .i64 0, .int .u64 0] 26) = w5 at *
      have bS := num_lt l 3 8
      have bN := num_small l 11 4 (by omega)
      have bB := num_small l 15 2 (by omega)
      have bQ := num_small l 17 1 (by omega)
      have bE := num_small l 18 2 (by omega)
      have bF := num_small l 20 2 (by omega)
      have kN : IntKind.i64.wrap (num l 11 4 : Int) = (num l 11 4 : Int) := asInt_small _ (by omega)
      have kB : IntKind.i64.wrap (num l 15 2 : Int) = (num l 15 2 : Int) := asInt_small _ (by omega)
      have kQ : IntKind.i64.wrap (num l 17 1 : Int) = (num l 17 1 : Int) := asInt_small _ (by omega)
      have kE : IntKind.i64.wrap (num l 18 2 : Int) = (num l 18 2 : Int) := asInt_small _ (by omega)
      have kF : IntKind.i64.wrap (num l 20 2 : Int) = (num l 20 2 : Int) := asInt_small _ (by omega)
      obtain ⟨Lv, hLv⟩ : ∃ x, asInt (num l 22 8) = x := ⟨_, rfl⟩
      have kL : IntKind.i64.wrap (num l 22 8 : Int) = Lv := hLv
      have HLV : Hid (asInt (num l 22 8) = Lv) := hLv
      clear bS bN bB bQ bE bF hLv
      refine (rx_next w w.heap.size c r q w.heap.size hb l 3 8 0 0 0 0 0 0 0 0 _ R0.out (by omega) (by omega) (by rw [HL.out]; omega)).mono ?_
      rintro e v0 ⟨rfl, h⟩
      have T0 : Hid (RX w w.heap.size c r q w.heap.size hb l 11 0 0 0 0 0 0 0 0 v0) := h
      clear h R0
      have R1 : Hid (RX w w.heap.size c r q w.heap.size hb l 11 (num l 3 8) 0 0 0 0 0 0 0 (v0.setCell ⟨hb, 0, none⟩ (.int .u64 (num l 3 8)))) := T0.out.store 0 _ (T0.out.hd.set0 _)
      have d0 := T0.out.hd.1
      have f0 := T0.out.fz 0
      go_wp2_with fail
      clear d0 f0 T0
      refine (rx_next w w.heap.size c r q w.heap.size hb l 11 4 (num l 3 8) 0 0 0 0 0 0 0 _ R1.out (by omega) (by omega) (by rw [HL.out]; omega)).mono ?_
      rintro e v1 ⟨rfl, h⟩
      have T1 : Hid (RX w w.heap.size c r q w.heap.size hb l 15 (num l 3 8) 0 0 0 0 0 0 0 v1) := h
      clear h R1
      have R2 : Hid (RX w w.heap.size c r q w.heap.size hb l 15 (num l 3 8) (num l 11 4) 0 0 0 0 0 0 (v1.setCell ⟨hb, 1, none⟩ (.int .i64 (num l 11 4)))) := T1.out.store 1 _ (T1.out.hd.set1 _)
      have d1 := T1.out.hd.2.1
      have f1 := T1.out.fz 1
      go_wp2_with fail
      clear d1 f1 T1
      refine (rx_next w w.heap.size c r q w.heap.size hb l 15 2 (num l 3 8) (num l 11 4) 0 0 0 0 0 0 _ R2.out (by omega) (by omega) (by rw [HL.out]; omega)).mono ?_
      rintro e v2 ⟨rfl, h⟩
      have T2 : Hid (RX w w.heap.size c r q w.heap.size hb l 17 (num l 3 8) (num l 11 4) 0 0 0 0 0 0 v2) := h
      clear h R2
      have R3 : Hid (RX w w.heap.size c r q w.heap.size hb l 17 (num l 3 8) (num l 11 4) (num l 15 2) 0 0 0 0 0 (v2.setCell ⟨hb, 2, none⟩ (.int .i64 (num l 15 2)))) := T2.out.store 2 _ (T2.out.hd.set2 _)
      have d2 := T2.out.hd.2.2.1
      have f2 := T2.out.fz 2
      go_wp2_with fail
      clear d2 f2 T2
      refine (rx_next w w.heap.size c r q w.heap.size hb l 17 1 (num l 3 8) (num l 11 4) (num l 15 2) 0 0 0 0 0 _ R3.out (by omega) (by omega) (by rw [HL.out]; omega)).mono ?_
      rintro e v3 ⟨rfl, h⟩
      have T3 : Hid (RX w w.heap.size c r q w.heap.size hb l 18 (num l 3 8) (num l 11 4) (num l 15 2) 0 0 0 0 0 v3) := h
      clear h R3
      have R4 : Hid (RX w w.heap.size c r q w.heap.size hb l 18 (num l 3 8) (num l 11 4) (num l 15 2) (num l 17 1) 0 0 0 0 (v3.setCell ⟨hb, 3, none⟩ (.int .i64 (num l 17 1)))) := T3.out.store 3 _ (T3.out.hd.set3 _)
      have d3 := T3.out.hd.2.2.2.1
      have f3 := T3.out.fz 3
      go_wp2_with fail
      clear d3 f3 T3
      refine (rx_next w w.heap.size c r q w.heap.size hb l 18 2 (num l 3 8) (num l 11 4) (num l 15 2) (num l 17 1) 0 0 0 0 _ R4.out (by omega) (by omega) (by rw [HL.out]; omega)).mono ?_
      rintro e v4 ⟨rfl, h⟩
      have T4 : Hid (RX w w.heap.size c r q w.heap.size hb l 20 (num l 3 8) (num l 11 4) (num l 15 2) (num l 17 1) 0 0 0 0 v4) := h
      clear h R4
      have R5 : Hid (RX w w.heap.size c r q w.heap.size hb l 20 (num l 3 8) (num l 11 4) (num l 15 2) (num l 17 1) (num l 18 2) 0 0 0 (v4.setCell ⟨hb, 4, none⟩ (.int .i64 (num l 18 2)))) := T4.out.store 4 _ (T4.out.hd.set4 _)
      have d4 := T4.out.hd.2.2.2.2.1
      have f4 := T4.out.fz 4
      go_wp2_with fail
      clear d4 f4 T4
      refine (rx_next w w.heap.size c r q w.heap.size hb l 20 2 (num l 3 8) (num l 11 4) (num l 15 2) (num l 17 1) (num l 18 2) 0 0 0 _ R5.out (by omega) (by omega) (by rw [HL.out]; omega)).mono ?_
      rintro e v5 ⟨rfl, h⟩
      have T5 : Hid (RX w w.heap.size c r q w.heap.size hb l 22 (num l 3 8) (num l 11 4) (num l 15 2) (num l 17 1) (num l 18 2) 0 0 0 v5) := h
      clear h R5
      have R6 : Hid (RX w w.heap.size c r q w.heap.size hb l 22 (num l 3 8) (num l 11 4) (num l 15 2) (num l 17 1) (num l 18 2) (num l 20 2) 0 0 (v5.setCell ⟨hb, 5, none⟩ (.int .i64 (num l 20 2)))) := T5.out.store 5 _ (T5.out.hd.set5 _)
      have d5 := T5.out.hd.2.2.2.2.2.1
      have f5 := T5.out.fz 5
      go_wp2_with fail
      clear d5 f5 T5
      refine (rx_next w w.heap.size c r q w.heap.size hb l 22 8 (num l 3 8) (num l 11 4) (num l 15 2) (num l 17 1) (num l 18 2) (num l 20 2) 0 0 _ R6.out (by omega) (by omega) (by rw [HL.out]; omega)).mono ?_
      rintro e v6 ⟨rfl, h⟩
      have T6 : Hid (RX w w.heap.size c r q w.heap.size hb l 30 (num l 3 8) (num l 11 4) (num l 15 2) (num l 17 1) (num l 18 2) (num l 20 2) 0 0 v6) := h
      clear h R6
      have R7 : Hid (RX w w.heap.size c r q w.heap.size hb l 30 (num l 3 8) (num l 11 4) (num l 15 2) (num l 17 1) (num l 18 2) (num l 20 2) Lv 0 (v6.setCell ⟨hb, 6, none⟩ (.int .i64 Lv))) := T6.out.store 6 _ (T6.out.hd.set6 _)
      have d6 := T6.out.hd.2.2.2.2.2.2.1
      have f6 := T6.out.fz 6
      go_wp2_with fail
      clear d6 f6 T6
      refine (rx_next w w.heap.size c r q w.heap.size hb l 30 8 (num l 3 8) (num l 11 4) (num l 15 2) (num l 17 1) (num l 18 2) (num l 20 2) Lv 0 _ R7.out (by omega) (by omega) (by rw [HL.out]; omega)).mono ?_
      rintro e v7 ⟨rfl, h⟩
      have T7 : Hid (RX w w.heap.size c r q w.heap.size hb l 38 (num l 3 8) (num l 11 4) (num l 15 2) (num l 17 1) (num l 18 2) (num l 20 2) Lv 0 v7) := h
      clear h R7
      have R8 : Hid (RX w w.heap.size c r q w.heap.size hb l 38 (num l 3 8) (num l 11 4) (num l 15 2) (num l 17 1) (num l 18 2) (num l 20 2) Lv (num l 30 8) (v7.setCell ⟨hb, 7, none⟩ (.int .u64 (num l 30 8)))) := T7.out.store 7 _ (T7.out.hd.set7 _)
      have d7 := T7.out.hd.2.2.2.2.2.2.2
      have f7 := T7.out.fz 7
      obtain ⟨e0, e1, e2, e3, e4, e5, e6, e7⟩ := R8.out.hd
      go_wp2_with fail
      clear d7 f7 T7 e0 e1 e2 e3 e4 e5 e6 e7
      generalize v7.setCell ⟨hb, 7, none⟩ (.int .u64 (num l 30 8)) = w6 at *
      refine (fcheck_any (num l 3 8) (num l 11 4) (num l 15 2) (num l 17 1) (num l 18 2) (num l 20 2) Lv (num l 30 8) w6).mono ?_
      rintro e w7 ⟨rfl, hb7⟩
      have hge := R8.out.rh.ge
      have hlt := R8.out.rh.rd.lt
      have hqlt : True := trivial
      have E7 : Hid (Eight w7 hb (num l 3 8) (num l 11 4) (num l 15 2) (num l 17 1) (num l 18 2) (num l 20 2) Lv (num l 30 8)) := R8.out.hd.below hb7
      have Z7 : Hid (Eight w7 w.heap.size 0 0 0 0 0 0 0 0) := R8.out.rh.res.below hb7
      have FZ : Hid (∀ i, w7.frozen? ⟨w.heap.size, i, none⟩ = false) := fun i => (World.frozen?_of_block (a := ⟨w.heap.size, i, none⟩) (hb7.block w.heap.size (by omega))).trans (R8.out.rh.fz i)
      have X7 : Hid (Below w.heap.size w w7) := R8.out.rh.bel.trans (hb7.mono (by omega))
      have HH : Hid (headE l = mayHE (num l 11 4) (num l 15 2) (num l 17 1) (num l 18 2) (num l 20 2) Lv) := by
        unfold Hid headE
        rw [if_neg (by rw [HM.out]; simp), if_neg (by rw [HV.out]; simp), HLV.out]
      clear R8 hb7 hge hlt hqlt kN kB kQ kE kF kL
      have f := FZ.out
      have f0 := f 0
      have f1 := f 1
      have f2 := f 2
      have f3 := f 3
      have f4 := f 4
      have f5 := f 5
      have f6 := f 6
      have f7 := f 7
      clear f
      obtain ⟨c0, c1, c2, c3, c4, c5, c6, c7⟩ := Z7.out
      by_cases hmay : MayH (num l 11 4) (num l 15 2) (num l 17 1) (num l 18 2) (num l 20 2) Lv
      · have HE : Hid (headE l = 0) := by unfold Hid; rw [HH.out, mayHE_yes hmay]
        have HVV : Hid (headV l = #[.int .u64 (num l 3 8), .int .i64 (num l 11 4), .int .i64 (num l 15 2), .int .i64 (num l 17 1), .int .i64 (num l 18 2), .int .i64 (num l 20 2), .int .i64 Lv, .int .u64 (num l 30 8)]) := by unfold Hid headV; rw [if_pos HE.out, HLV.out]
        rw [mayHE_yes hmay]
        clear hmay HH
        obtain ⟨e0, e1, e2, e3, e4, e5, e6, e7⟩ := E7.out
        generalize num l 3 8 = n0 at *
        generalize num l 11 4 = n1 at *
        generalize num l 15 2 = n2 at *
        generalize num l 17 1 = n3 at *
        generalize num l 18 2 = n4 at *
        generalize num l 20 2 = n5 at *
        generalize num l 30 8 = n7 at *
        go_wp2
        (try simp only [Exit.inBlock, Exit.then])
        refine bodyPost_ret (ret_cell rfl rfl rfl (load8 (store8 Z7.out n0 n1 n2 n3 n4 n5 Lv n7))) rfl ?_
        exact ⟨ret_head HE.out HVV.out, below8 X7.out (Nat.le_refl _) _ _ _ _ _ _ _ _⟩
      · have HE : Hid (headE l = 1) := by unfold Hid; rw [HH.out, mayHE_no hmay]
        have HVV : Hid (headV l = #[.int .u64 0, .int .i64 0, .int .i64 0, .int .i64 0, .int .i64 0, .int .i64 0, .int .i64 0, .int .u64 0]) := by unfold Hid headV; rw [if_neg (by rw [HE.out]; simp)]
        rw [mayHE_no hmay]
        clear hmay HH
        go_wp2
        (try simp only [Exit.inBlock, Exit.then])
        refine bodyPost_ret (ret_cell rfl rfl rfl (load8 (store8 Z7.out 0 0 0 0 0 0 0 0))) rfl ?_
        exact ⟨ret_head HE.out HVV.out, below8 X7.out (Nat.le_refl _) _ _ _ _ _ _ _ _⟩
    · have HE : Hid (headE l = 6) := by unfold Hid headE; rw [if_neg (by rw [HM.out]; simp), if_pos hv]
      have HVV : Hid (headV l = #[.int .u64 0, .int .i64 0, .int .i64 0, .int .i64 0, .int .i64 0, .int .i64 0, .int .i64 0, .int .u64 0]) := by unfold Hid headV; rw [if_neg (by rw [HE.out]; simp)]
      have hne := u64_ne hv
      obtain ⟨c0, c1, c2, c3, c4, c5, c6, c7⟩ := H4.out.res
      have f := H4.out.fz
      have f0 := f 0
      have f1 := f 1
      have f2 := f 2
      have f3 := f 3
      have f4 := f 4
      have f5 := f 5
      have f6 := f 6
      have f7 := f 7
      clear hv f
      generalize num l 2 1 = m at *
      go_wp2
      (try simp only [Exit.inBlock, Exit.then])
      refine bodyPost_ret (ret_cell rfl rfl rfl (load8 (store8 H4.out.res 0 0 0 0 0 0 0 0))) rfl ?_
      exact ⟨ret_head HE.out HVV.out, below8 H4.out.bel (Nat.le_refl _) _ _ _ _ _ _ _ _⟩
  · have HE : Hid (headE l = 5) := by unfold Hid headE; rw [if_pos hm]
    have HVV : Hid (headV l = #[.int .u64 0, .int .i64 0, .int .i64 0, .int .i64 0, .int .i64 0, .int .i64 0, .int .i64 0, .int .u64 0]) := by unfold Hid headV; rw [if_neg (by rw [HE.out]; simp)]
    have hne := u64_ne hm
    obtain ⟨c0, c1, c2, c3, c4, c5, c6, c7⟩ := H3.out.res
    have f := H3.out.fz
    have f0 := f 0
    have f1 := f 1
    have f2 := f 2
    have f3 := f 3
    have f4 := f 4
    have f5 := f 5
    have f6 := f 6
    have f7 := f 7
    clear hm f
    generalize num l 0 2 = m at *
    go_wp2
    (try simp only [Exit.inBlock, Exit.then])
    refine bodyPost_ret (ret_cell rfl rfl rfl (load8 (store8 H3.out.res 0 0 0 0 0 0 0 0))) rfl ?_
    exact ⟨ret_head HE.out HVV.out, below8 H3.out.bel (Nat.le_refl _) _ _ _ _ _ _ _ _⟩

end Go.Proofs.Ytecohgmllmddhaa
