/-
  The walk of the statement FrameIDs.
-/
import Derived.Test.YtijonjiioeahhaaFrP
namespace Go.Proofs.Ytijonjiioeahhaa
open Go.RowKit
set_option linter.unusedVariables false

set_option maxRecDepth 100000 in
set_option maxHeartbeats 4000000 in
theorem frameIDs_walk (S N B Q E F L I : Int) (pv : Value) (p : List UInt8) (J : Int) (w : World) (hw : Bs w pv p ∧ Ok .u64 S ∧ Ok .i64 N ∧ Ok .i64 B ∧ Ok .i64 Q ∧ Ok .i64 E ∧ Ok .i64 F ∧ Ok .i64 L ∧ Ok .u64 I) (hJ : (Lit.int .u64 J).wf = true) :
    Calls Try.prog 12 #[.agg #[.int .u64 S, .int .i64 N, .int .i64 B, .int .i64 Q, .int .i64 E, .int .i64 F, .int .i64 L, .int .u64 I, pv], .int .u64 J] w fun e w' => e = .returned (.bool true) ∧ Below w.heap.size w w' := by
  obtain ⟨m7, rfl, hm7⟩ := ok_u64 (n := J) hJ
  have HM7 : Hid (m7 < 2 ^ 64) := hm7
  clear hJ hm7
  obtain ⟨hp, hS, -, -, -, -, -, -, hI⟩ := hw
  have HP : Hid (Bs w pv p) := hp
  have HSI : Hid (Ok .u64 S ∧ Ok .u64 I) := ⟨hS, hI⟩
  obtain ⟨-, pa, pk, rfl, -, -, -, -⟩ := hp
  obtain ⟨n, hn⟩ : ∃ n, p.length = n := ⟨_, rfl⟩
  rw [hn] at HP ⊢
  have HPN : Hid (p.length = n) := hn
  clear hS hI hn
  go_enter Try.func12, Try.ntmps12
  go_wp2_with fail
  refine (speaks6_any _).mono ?_
  rintro e w1 ⟨rfl, hb1⟩
  have X1 : Hid (Below w.heap.size w w1) := below_mid (below_alloc _ _) hb1
  have N1 : Hid (Nine w1 w.heap.size S N B Q E F L I (.slice pa n pk)) := (nine_new w _ S N B Q E F L I _).below hb1
  have FZ1 : Hid (w1.frozen? ⟨w.heap.size, 7, none⟩ = false) := (World.frozen?_of_block (a := ⟨w.heap.size, 7, none⟩) (hb1.block w.heap.size (by simp))).trans (by simp)
  clear hb1
  obtain ⟨⟨c0, c1, c2, c3, c4, c5, c6, c7⟩, c8⟩ := N1.out
  by_cases h300 : 300 < n
  · have h300I : (300 : Int) < (n : Int) := by omega
    go_wp2
    go_ret
    exact ⟨rfl, X1.out⟩
  have h300I : ¬ (300 : Int) < (n : Int) := by omega
  go_wp2_with fail
  refine (fnew_any _).mono ?_
  rintro e w2 ⟨c, g, rfl, hco, hb2, hcg1, hcg2, -⟩
  have HCG : Hid (c ≠ w.heap.size ∧ g ≠ w.heap.size) := by have := N1.out.lt; exact ⟨by omega, by omega⟩
  have C2 : Hid (IsCo w2 c g) := hco
  have X2 : Hid (Below w.heap.size w w2) := below_mid X1.out hb2
  have N2 : Hid (Nine w2 w.heap.size S N B Q E F L I (.slice pa n pk)) := N1.out.below hb2
  have FZ2 : Hid (w2.frozen? ⟨w.heap.size, 7, none⟩ = false) := (World.frozen?_of_block (a := ⟨w.heap.size, 7, none⟩) (hb2.block w.heap.size N1.out.lt)).trans FZ1.out
  clear hco hb2 hcg1 hcg2 X1 N1 FZ1 c0 c1 c2 c3 c4 c5 c6 c7 c8
  obtain ⟨⟨c0, c1, c2, c3, c4, c5, c6, c7⟩, c8⟩ := N2.out
  by_cases hm : MayH N B Q E F L
  · by_cases hlen : (n : Int) = B
    · obtain ⟨n1, n2, n3, n4, n5, n6, rfl, rfl, rfl, rfl, rfl, rfl⟩ := may_nats hm
      obtain ⟨n0, rfl, hn0⟩ := ok_u64 HSI.out.1
      obtain ⟨n7, rfl, hn7⟩ := ok_u64 HSI.out.2
      have hnn : n = n2 := by omega
      subst hnn
      have HM : Hid (MayH n1 n n3 n4 n5 n6) := hm
      have HN : Hid (n0 < 2 ^ 64 ∧ n7 < 2 ^ 64) := ⟨hn0, hn7⟩
      clear hlen hn0 hn7 HSI hm
      go_wp2_with fail
      refine (enc_yes c g n0 n1 n n3 n4 n5 n6 n7 pa pk p w2 C2.out HM.out HN.out.1 HN.out.2 (HP.out.below X2.out) HPN.out (by omega)).mono ?_
      rintro e w3 ⟨qa, rfl, hqa, hoa, hb3⟩
      have X3 : Hid (Below w.heap.size w w3) := below_mid X2.out hb3
      have C3 : Hid (IsCo w3 c g) := C2.out.below hb3
      have N3 : Hid (Nine w3 w.heap.size n0 n1 n n3 n4 n5 n6 n7 (.slice pa n pk)) := N2.out.below hb3
      have FZ3 : Hid (w3.frozen? ⟨w.heap.size, 7, none⟩ = false) := (World.frozen?_of_block (a := ⟨w.heap.size, 7, none⟩) (hb3.block w.heap.size N2.out.lt)).trans FZ2.out
      have O3 : Hid (Own w3 qa (frameB n0 n1 n n3 n4 n5 n6 n7 p)) := hoa
      have HQA : Hid (qa ≠ w.heap.size) := by have := N2.out.lt; unfold Hid; omega
      clear hqa hoa hb3 X2 C2 N2 FZ2 c0 c1 c2 c3 c4 c5 c6 c7 c8
      obtain ⟨⟨c0, c1, c2, c3, c4, c5, c6, c7⟩, c8⟩ := N3.out
      have f7 := FZ3.out
      go_wp2_with fail
      have X4 : Hid (Below w.heap.size w (w3.setCell ⟨w.heap.size, 7, none⟩ (.int .u64 (m7 : Int)))) := X3.out.setCell (Nat.le_refl _) _
      have hkp : ∀ k, k ≠ w.heap.size → (w3.setCell ⟨w.heap.size, 7, none⟩ (.int .u64 (m7 : Int))).heap[k]? = w3.heap[k]? := fun k hk => Below.heap_setCell w3 ⟨w.heap.size, 7, none⟩ _ k hk
      have C4 : Hid (IsCo (w3.setCell ⟨w.heap.size, 7, none⟩ (.int .u64 (m7 : Int))) c g) := ⟨(World.cell?_of_block (a := ⟨c, 0, none⟩) (hkp c HCG.out.1)).trans C3.out.1, fun i hi => (World.cell?_of_block (a := ⟨g, i, none⟩) (hkp g HCG.out.2)).trans (C3.out.2 i hi)⟩
      have O4 : Hid (Own (w3.setCell ⟨w.heap.size, 7, none⟩ (.int .u64 (m7 : Int))) qa (frameB n0 n1 n n3 n4 n5 n6 n7 p)) := O3.out.kept (hkp qa HQA.out)
      clear hkp X3 C3 N3 FZ3 O3 c0 c1 c2 c3 c4 c5 c6 c7 c8 f7
      obtain ⟨w4, hw4⟩ : ∃ w4, w3.setCell ⟨w.heap.size, 7, none⟩ (.int .u64 (m7 : Int)) = w4 := ⟨_, rfl⟩
      rw [hw4] at X4 C4 O4 ⊢
      clear hw4
      refine (enc_yes c g n0 n1 n n3 n4 n5 n6 m7 pa pk p w4 C4.out HM.out HN.out.1 HM7.out (HP.out.below X4.out) HPN.out (by omega)).mono ?_
      rintro e w6 ⟨qb, rfl, hqb, hob, hb6⟩
      have X6 : Hid (Below w.heap.size w w6) := below_mid X4.out hb6
      have OA : Hid (Own w6 qa (frameB n0 n1 n n3 n4 n5 n6 n7 p)) := O4.out.kept (hb6.block qa O4.out.lt)
      have OB : Hid (Own w6 qb (frameB n0 n1 n n3 n4 n5 n6 m7 p)) := hob
      have HLA : Hid ((frameB n0 n1 n n3 n4 n5 n6 n7 p).length = 42 + n) := by unfold Hid; rw [frameB_length, HPN.out]
      have HLB : Hid ((frameB n0 n1 n n3 n4 n5 n6 m7 p).length = 42 + n) := by unfold Hid; rw [frameB_length, HPN.out]
      have BA : Hid (Bs w6 (.slice (some ⟨qa, 0, none⟩) (42 + n) (42 + n)) (frameB n0 n1 n n3 n4 n5 n6 n7 p)) := by
        have h := OA.out.bs (by rw [HLA.out]; omega)
        rw [HLA.out] at h
        exact h
      have BB : Hid (Bs w6 (.slice (some ⟨qb, 0, none⟩) (42 + n) (42 + n)) (frameB n0 n1 n n3 n4 n5 n6 m7 p)) := by
        have h := OB.out.bs (by rw [HLB.out]; omega)
        rw [HLB.out] at h
        exact h
      have HSM : Hid (∀ i, (i < 30 ∨ (38 ≤ i ∧ i < 38 + n)) → (frameB n0 n1 n n3 n4 n5 n6 n7 p)[i]? = (frameB n0 n1 n n3 n4 n5 n6 m7 p)[i]?) := fun i hi => frame_same n0 n1 n n3 n4 n5 n6 n7 m7 p i (by rw [HPN.out]; exact hi)
      have HMA : Hid (((frameB n0 n1 n n3 n4 n5 n6 n7 p).drop 30).take 8 = be n7 8) := frame_mid _ _ _ _ _ _ _ _ _
      have HMB : Hid (((frameB n0 n1 n n3 n4 n5 n6 m7 p).drop 30).take 8 = be m7 8) := frame_mid _ _ _ _ _ _ _ _ _
      clear hqb hob hb6 X4 C4 O4 HM
      have k1 := conv_bytes BA.out
      have k2 := conv_bytes BB.out
      have hst := str_toList
      by_cases hid : n7 = m7
      · have hidI : ((n7 : Int) == (m7 : Int)) = true := by simp; omega
        have HBE : Hid ((be n7 8 == be m7 8) = true) := by unfold Hid; rw [hid]; simp
        have hfe : ((frameB n0 n1 n n3 n4 n5 n6 n7 p) == (frameB n0 n1 n n3 n4 n5 n6 m7 p)) = true := by rw [hid]; simp
        clear hid
        generalize frameB n0 n1 n n3 n4 n5 n6 n7 p = fa at *
        generalize frameB n0 n1 n n3 n4 n5 n6 m7 p = fb at *
        go_wp2
        go_loopw [61] (fun i wr => ∃ t : Nat, t ≤ 42 + n ∧ i = .int .i64 t ∧ Below w6.heap.size w6 wr) (fun i _ => 42 + n - (intOf i).toNat)
        case atStart => exact ⟨0, by omega, rfl, Below.refl _ _⟩
        case round =>
          obtain ⟨t, ht, rfl, hbr⟩ := hrel
          have HBR : Hid (Below w6.heap.size w6 wr) := hbr
          clear hbr
          by_cases hlt : t < 42 + n
          · have hw4 : IntKind.i64.wrap (42 + (n : Int) - 4) = 38 + (n : Int) := by rw [IntKind.wrap_i64]; omega
            obtain ⟨ya, hya⟩ : ∃ y, fa[t]? = some y := ⟨_, List.getElem?_eq_getElem (by rw [HLA.out]; exact hlt)⟩
            obtain ⟨yb, hyb⟩ : ∃ y, fb[t]? = some y := ⟨_, List.getElem?_eq_getElem (by rw [HLB.out]; exact hlt)⟩
            have hca : wr.cell? ⟨qa, t, none⟩ = some (.int .u8 (ya.toNat : Int)) := (OA.out.kept (HBR.out.block qa OA.out.lt)).cell t _ (by rw [List.getElem?_map, hya]; rfl)
            have hcb : wr.cell? ⟨qb, t, none⟩ = some (.int .u8 (yb.toNat : Int)) := (OB.out.kept (HBR.out.block qb OB.out.lt)).cell t _ (by rw [List.getElem?_map, hyb]; rfl)
            by_cases hin : t < 30 ∨ (38 ≤ t ∧ t < 38 + n)
            · have hyy : ya = yb := by
                have h := HSM.out t hin
                rw [hya, hyb] at h
                exact Option.some.inj h
              subst hyy
              clear hya hyb
              rcases hin with h30 | ⟨h38, h38n⟩
              · have h30I : (t : Int) < 30 := by omega
                go_wp2
                go_quiet (fail)
                go_wp2
                go_roundw
                case rel => exact ⟨t + 1, by omega, by go_num, below_drewN HBR.out _⟩
                case measure => simp [intOf]; omega
              · have h30I : ¬ (t : Int) < 30 := by omega
                have h38I : (38 : Int) ≤ (t : Int) := by omega
                have h38J : (t : Int) < 38 + (n : Int) := by omega
                go_wp2
                go_quiet (fail)
                go_wp2
                go_roundw
                case rel => exact ⟨t + 1, by omega, by go_num, below_drewN HBR.out _⟩
                case measure => simp [intOf]; omega
            · have h30I : decide ((t : Int) < 30) = false := decide_eq_false (by omega)
              clear hya hyb
              by_cases h38 : 38 ≤ t
              · have h38I : (38 : Int) ≤ (t : Int) := by omega
                have h38J : decide ((t : Int) < 38 + (n : Int)) = false := decide_eq_false (by omega)
                clear hin
                go_wp2
                go_quiet (fail)
                go_wp2
                go_roundw
                case rel => exact ⟨t + 1, by omega, by go_num, below_drewN HBR.out _⟩
                case measure => simp [intOf]; omega
              · have h38I : decide ((38 : Int) ≤ (t : Int)) = false := decide_eq_false (by omega)
                clear hin
                go_wp2
                go_quiet (fail)
                go_wp2
                go_roundw
                case rel => exact ⟨t + 1, by omega, by go_num, below_drewN HBR.out _⟩
                case measure => simp [intOf]; omega
          · have XR : Hid (Below w.heap.size w wr) := below_mid X6.out HBR.out
            have s1 : Hid (∀ W, (Instr.slice 28 (.slice (some ⟨qa, 0, none⟩) (42 + n) (42 + n)) (some (.int .i64 30)) (some (.int .i64 38)) none).run Try.prog W = .ok (.slice (some ⟨qa, 30, none⟩) 8 (42 + n - 30)) W) := by
              intro W
              have h := slice_mid W (some ⟨qa, 0, none⟩) (42 + n) (42 + n) 30 8 (by omega)
              rw [if_neg (by omega)] at h
              simpa [Addr.add] using h
            have s2 : Hid (∀ W, (Instr.slice 28 (.slice (some ⟨qb, 0, none⟩) (42 + n) (42 + n)) (some (.int .i64 30)) (some (.int .i64 38)) none).run Try.prog W = .ok (.slice (some ⟨qb, 30, none⟩) 8 (42 + n - 30)) W) := by
              intro W
              have h := slice_mid W (some ⟨qb, 0, none⟩) (42 + n) (42 + n) 30 8 (by omega)
              rw [if_neg (by omega)] at h
              simpa [Addr.add] using h
            have SA : Hid (Bs wr (.slice (some ⟨qa, 30, none⟩) 8 (42 + n - 30)) (be n7 8)) := by
              have h := (BA.out.below HBR.out).mid 30 8 (by omega)
              rw [if_neg (by omega), HMA.out] at h
              have e : ((some (⟨qa, 0, none⟩ : Addr)).map (·.add (30 * 1))) = some ⟨qa, 30, none⟩ := by simp [Addr.add]
              rw [e] at h
              exact h
            have SB : Hid (Bs wr (.slice (some ⟨qb, 30, none⟩) 8 (42 + n - 30)) (be m7 8)) := by
              have h := (BB.out.below HBR.out).mid 30 8 (by omega)
              rw [if_neg (by omega), HMB.out] at h
              have e : ((some (⟨qb, 0, none⟩ : Addr)).map (·.add (30 * 1))) = some ⟨qb, 30, none⟩ := by simp [Addr.add]
              rw [e] at h
              exact h
            have KA : Hid (∀ W, Below wr.heap.size wr W → (convert 28 9 (.slice (some ⟨qa, 30, none⟩) 8 (42 + n - 30))).run Try.prog W = .ok (.string (str (be n7 8))) W) := fun W hW => conv_bytes (SA.out.below hW)
            have KB : Hid (∀ W, Below wr.heap.size wr W → (convert 28 9 (.slice (some ⟨qb, 30, none⟩) 8 (42 + n - 30))).run Try.prog W = .ok (.string (str (be m7 8))) W) := fun W hW => conv_bytes (SB.out.below hW)
            have hbe : (be n7 8 == be m7 8) = true := HBE.out
            generalize be n7 8 = ba at *
            generalize be m7 8 = bb at *
            clear SA SB BA BB OA OB
            go_wp2
            refine wp_region_any (by kernel_rfl) ?_
            obtain ⟨gs, hgs⟩ : ∃ gs : List (Value → World → Prop), gs = [IsV (Value.slice (some { block := qa, off := 0 }) (42 + n) (42 + n)), IsV (.slice (some ⟨qa, 30, none⟩) 8 (42 + n - 30)), IsV (.string (str ba)), IsV (Value.slice (some { block := qb, off := 0 }) (42 + n) (42 + n)), IsV (.slice (some ⟨qb, 30, none⟩) 8 (42 + n - 30)), IsV (.string (str bb)), IsV (.bool true), IsV (Value.bool true), IsV (.bool true), IsV (.bool true)] := ⟨_, rfl⟩
            have g0 : Hid (gs[0]? = some (IsV (Value.slice (some { block := qa, off := 0 }) (42 + n) (42 + n)))) := by unfold Hid; rw [hgs]; rfl
            have g1 : Hid (gs[1]? = some (IsV (.slice (some ⟨qa, 30, none⟩) 8 (42 + n - 30)))) := by unfold Hid; rw [hgs]; rfl
            have g2 : Hid (gs[2]? = some (IsV (.string (str ba)))) := by unfold Hid; rw [hgs]; rfl
            have g3 : Hid (gs[3]? = some (IsV (Value.slice (some { block := qb, off := 0 }) (42 + n) (42 + n)))) := by unfold Hid; rw [hgs]; rfl
            have g4 : Hid (gs[4]? = some (IsV (.slice (some ⟨qb, 30, none⟩) 8 (42 + n - 30)))) := by unfold Hid; rw [hgs]; rfl
            have g5 : Hid (gs[5]? = some (IsV (.string (str bb)))) := by unfold Hid; rw [hgs]; rfl
            have g6 : Hid (gs[6]? = some (IsV (.bool true))) := by unfold Hid; rw [hgs]; rfl
            have g7 : Hid (gs[7]? = some (IsV (Value.bool true))) := by unfold Hid; rw [hgs]; rfl
            have g8 : Hid (gs[8]? = some (IsV (.bool true))) := by unfold Hid; rw [hgs]; rfl
            have g9 : Hid (gs[9]? = some (IsV (.bool true))) := by unfold Hid; rw [hgs]; rfl
            have gk : Hid (∀ p ∈ gs, Stays p) := by
              unfold Hid
              rw [hgs]
              simp only [List.forall_mem_cons]
              exact ⟨stays_v _, stays_v _, stays_v _, stays_v _, stays_v _, stays_v _, stays_v _, stays_v _, stays_v _, stays_v _, by simp⟩
            clear hgs
            refine wpAny_inv (fun listed ac W => ∃ xv : Nat → Value, ac = ⟨#[Value.agg #[Value.int IntKind.u64 ↑n0, Value.int IntKind.i64 ↑n1, Value.int IntKind.i64 ↑n, Value.int IntKind.i64 ↑n3, Value.int IntKind.i64 ↑n4, Value.int IntKind.i64 ↑n5, Value.int IntKind.i64 ↑n6, Value.int IntKind.u64 ↑n7, Value.slice pa n pk], Value.int IntKind.u64 ↑m7, Value.pointer (some { block := w.heap.size, off := 0 }), undef, xv 9, Value.pointer (some { block := c, off := 0 }), Value.slice (some { block := qa, off := 0 }) (42 + n) (42 + n), Value.int IntKind.i64 (0 : Int), Value.bool true, Value.slice (some { block := qb, off := 0 }) (42 + n) (42 + n), Value.int IntKind.i64 (0 : Int), u11, Value.bool true, Value.bool false, Value.pointer (some { block := w.heap.size, off := 8 }), Value.slice pa n pk, Value.int IntKind.i64 ↑n, Value.bool (decide ((300 : Int) < ↑n)), Value.pointer (some { block := c, off := 0 }), Value.tuple #[Value.slice (some { block := qa, off := 0 }) (42 + n) (42 + n), Value.int IntKind.i64 (0 : Int)], Value.pointer (some { block := c, off := 0 }), Value.agg #[Value.int IntKind.u64 ↑n0, Value.int IntKind.i64 ↑n1, Value.int IntKind.i64 ↑n, Value.int IntKind.i64 ↑n3, Value.int IntKind.i64 ↑n4, Value.int IntKind.i64 ↑n5, Value.int IntKind.i64 ↑n6, Value.int IntKind.u64 ↑n7, Value.slice pa n pk], Value.tuple #[Value.slice (some { block := qa, off := 0 }) (42 + n) (42 + n), Value.int IntKind.i64 (0 : Int)], Value.slice (some { block := qa, off := 0 }) (42 + n) (42 + n), Value.int IntKind.i64 (0 : Int), Value.int IntKind.i64 (0 : Int), Value.bool false, Value.pointer (some { block := w.heap.size, off := 0 }), Value.pointer (some { block := w.heap.size, off := 7 }), Value.int IntKind.u64 ↑n7, Value.int IntKind.u64 ↑m7, Value.bool true, Value.int IntKind.u64 ↑m7, Value.pointer (some { block := w.heap.size, off := 0 }), Value.pointer (some { block := w.heap.size, off := 7 }), Value.tuple #[Value.slice (some { block := qb, off := 0 }) (42 + n) (42 + n), Value.int IntKind.i64 (0 : Int)], Value.pointer (some { block := c, off := 0 }), Value.agg #[Value.int IntKind.u64 ↑n0, Value.int IntKind.i64 ↑n1, Value.int IntKind.i64 ↑n, Value.int IntKind.i64 ↑n3, Value.int IntKind.i64 ↑n4, Value.int IntKind.i64 ↑n5, Value.int IntKind.i64 ↑n6, Value.int IntKind.u64 ↑m7, Value.slice pa n pk], Value.tuple #[Value.slice (some { block := qb, off := 0 }) (42 + n) (42 + n), Value.int IntKind.i64 (0 : Int)], Value.slice (some { block := qb, off := 0 }) (42 + n) (42 + n), Value.int IntKind.i64 (0 : Int), Value.int IntKind.i64 (0 : Int), Value.bool false, Value.bool false, Value.slice (some { block := qa, off := 0 }) (42 + n) (42 + n), Value.int IntKind.i64 ((42 : Int) + ↑n), Value.slice (some { block := qb, off := 0 }) (42 + n) (42 + n), Value.int IntKind.i64 ((42 : Int) + ↑n), Value.bool false, Value.bool false, Value.bool false, Value.slice (some { block := qa, off := 0 }) (42 + n) (42 + n), Value.string (str fa), Value.slice (some { block := qb, off := 0 }) (42 + n) (42 + n), Value.string (str fb), Value.bool true, Value.bool true, Value.bool false, Value.bool false, Value.slice (some { block := qa, off := 0 }) (42 + n) (42 + n), Value.int IntKind.i64 ((42 : Int) + ↑n), Value.int IntKind.i64 ↑t, Value.bool (decide (↑t < (42 : Int) + ↑n)), u63, u64, u65, u66, u67, u68, u69, u70, u71, u72, u73, u74, u75, u76, u77, u78, u79, u80, u81, u82, u83, u84, u85, u86, u87, u88, xv 0, xv 1, xv 2, xv 3, xv 4, xv 5, xv 6, xv 7, xv 8], []⟩ ∧ Below wr.heap.size wr W ∧ Lst gs listed xv W) (by kernel_rfl) ?_ ?_ _ _ _ _ (by kernel_rfl) (of_decide_eq_true (by kernel_rfl)) ⟨fun j => if j = 9 then u4 else undef, rfl, below0 _, Lst.start _ _ _ _⟩
            · rintro listed ac W ⟨xv, rfl, hb, hG⟩ i hi hd
              have hin : i < 10 := hi
              clear hi
              have hcase : i = 0 ∨ i = 1 ∨ i = 2 ∨ i = 3 ∨ i = 4 ∨ i = 5 ∨ i = 6 ∨ i = 7 ∨ i = 8 ∨ i = 9 := by omega
              rcases hcase with rfl | rfl | rfl | rfl | rfl | rfl | rfl | rfl | rfl | rfl
              · refine wpOp_step rfl (fun K' hK => ?_)
                clear hd hin
                go_simp
                exact hK _ _ ⟨updV xv 0 (Value.slice (some { block := qa, off := 0 }) (42 + n) (42 + n)), by simp [updV], hb, hG.same gk.out g0.out _ rfl⟩
              · refine wpOp_step rfl (fun K' hK => ?_)
                simp [Region.binds] at hd
                have e0 : xv 0 = Value.slice (some { block := qa, off := 0 }) (42 + n) (42 + n) := hG.get g0.out (by simp [hd])
                have kr := s1.out W
                clear hd hin
                go_simp
                exact hK _ _ ⟨updV xv 1 (.slice (some ⟨qa, 30, none⟩) 8 (42 + n - 30)), by simp [updV, e0], hb, hG.same gk.out g1.out _ rfl⟩
              · refine wpOp_step rfl (fun K' hK => ?_)
                simp [Region.binds] at hd
                have e1 : xv 1 = .slice (some ⟨qa, 30, none⟩) 8 (42 + n - 30) := hG.get g1.out (by simp [hd])
                have kr := KA.out W hb
                clear hd hin
                go_simp
                exact hK _ _ ⟨updV xv 2 (.string (str ba)), by simp [updV, e1], hb, hG.same gk.out g2.out _ rfl⟩
              · refine wpOp_step rfl (fun K' hK => ?_)
                clear hd hin
                go_simp
                exact hK _ _ ⟨updV xv 3 (Value.slice (some { block := qb, off := 0 }) (42 + n) (42 + n)), by simp [updV], hb, hG.same gk.out g3.out _ rfl⟩
              · refine wpOp_step rfl (fun K' hK => ?_)
                simp [Region.binds] at hd
                have e3 : xv 3 = Value.slice (some { block := qb, off := 0 }) (42 + n) (42 + n) := hG.get g3.out (by simp [hd])
                have kr := s2.out W
                clear hd hin
                go_simp
                exact hK _ _ ⟨updV xv 4 (.slice (some ⟨qb, 30, none⟩) 8 (42 + n - 30)), by simp [updV, e3], hb, hG.same gk.out g4.out _ rfl⟩
              · refine wpOp_step rfl (fun K' hK => ?_)
                simp [Region.binds] at hd
                have e4 : xv 4 = .slice (some ⟨qb, 30, none⟩) 8 (42 + n - 30) := hG.get g4.out (by simp [hd])
                have kr := KB.out W hb
                clear hd hin
                go_simp
                exact hK _ _ ⟨updV xv 5 (.string (str bb)), by simp [updV, e4], hb, hG.same gk.out g5.out _ rfl⟩
              · refine wpOp_step rfl (fun K' hK => ?_)
                simp [Region.binds] at hd
                have e2 : xv 2 = .string (str ba) := hG.get g2.out (by simp [hd])
                have e5 : xv 5 = .string (str bb) := hG.get g5.out (by simp [hd])
                have hst := str_toList
                clear hd hin
                go_simp
                exact hK _ _ ⟨updV xv 6 (.bool true), by simp [updV, e2, e5], hb, hG.same gk.out g6.out _ rfl⟩
              · refine wpOp_step rfl (fun K' hK => ?_)
                clear hd hin
                go_simp
                exact hK _ _ ⟨updV xv 7 (Value.bool true), by simp [updV], hb, hG.same gk.out g7.out _ rfl⟩
              · refine wpOp_step rfl (fun K' hK => ?_)
                simp [Region.binds] at hd
                have e6 : xv 6 = .bool true := hG.get g6.out (by simp [hd])
                have e7 : xv 7 = Value.bool true := hG.get g7.out (by simp [hd])
                clear hd hin
                go_simp
                exact hK _ _ ⟨updV xv 8 (.bool true), by simp [updV, e6, e7], hb, hG.same gk.out g8.out _ rfl⟩
              · refine wpOp_step rfl (fun K' hK => ?_)
                simp [Region.binds] at hd
                have e8 : xv 8 = .bool true := hG.get g8.out (by simp [hd])
                clear hd hin
                go_simp
                exact hK _ _ ⟨updV xv 9 (.bool true), by simp [updV, e8], hb, hG.same gk.out g9.out _ rfl⟩
            · rintro listed ac W ⟨xv, rfl, hb, hG⟩ hall
              have e9 : xv 9 = .bool true := hG.get g9.out (hall 9 (by decide))
              have XW : Hid (Below wr.heap.size wr W) := hb
              clear hall hG hb gk g0 g1 g2 g3 g4 g5 g6 g7 g8 g9
              rw [e9]
              clear e9
              go_wp2
              go_ret
              exact ⟨rfl, below_mid XR.out XW.out⟩
      · have hidI : ((n7 : Int) == (m7 : Int)) = false := by simp; omega
        have HBE : Hid ((be n7 8 == be m7 8) = false) := by
          unfold Hid
          rw [beq_eq_false_iff_ne]
          exact fun e => hid (be_inj HN.out.2 HM7.out e)
        have hfe : ((frameB n0 n1 n n3 n4 n5 n6 n7 p) == (frameB n0 n1 n n3 n4 n5 n6 m7 p)) = false := by
          rw [beq_eq_false_iff_ne]
          exact frame_ne n0 n1 n n3 n4 n5 n6 n7 m7 p HN.out.2 HM7.out hid
        clear hid
        generalize frameB n0 n1 n n3 n4 n5 n6 n7 p = fa at *
        generalize frameB n0 n1 n n3 n4 n5 n6 m7 p = fb at *
        go_wp2
        go_loopw [61] (fun i wr => ∃ t : Nat, t ≤ 42 + n ∧ i = .int .i64 t ∧ Below w6.heap.size w6 wr) (fun i _ => 42 + n - (intOf i).toNat)
        case atStart => exact ⟨0, by omega, rfl, Below.refl _ _⟩
        case round =>
          obtain ⟨t, ht, rfl, hbr⟩ := hrel
          have HBR : Hid (Below w6.heap.size w6 wr) := hbr
          clear hbr
          by_cases hlt : t < 42 + n
          · have hw4 : IntKind.i64.wrap (42 + (n : Int) - 4) = 38 + (n : Int) := by rw [IntKind.wrap_i64]; omega
            obtain ⟨ya, hya⟩ : ∃ y, fa[t]? = some y := ⟨_, List.getElem?_eq_getElem (by rw [HLA.out]; exact hlt)⟩
            obtain ⟨yb, hyb⟩ : ∃ y, fb[t]? = some y := ⟨_, List.getElem?_eq_getElem (by rw [HLB.out]; exact hlt)⟩
            have hca : wr.cell? ⟨qa, t, none⟩ = some (.int .u8 (ya.toNat : Int)) := (OA.out.kept (HBR.out.block qa OA.out.lt)).cell t _ (by rw [List.getElem?_map, hya]; rfl)
            have hcb : wr.cell? ⟨qb, t, none⟩ = some (.int .u8 (yb.toNat : Int)) := (OB.out.kept (HBR.out.block qb OB.out.lt)).cell t _ (by rw [List.getElem?_map, hyb]; rfl)
            by_cases hin : t < 30 ∨ (38 ≤ t ∧ t < 38 + n)
            · have hyy : ya = yb := by
                have h := HSM.out t hin
                rw [hya, hyb] at h
                exact Option.some.inj h
              subst hyy
              clear hya hyb
              rcases hin with h30 | ⟨h38, h38n⟩
              · have h30I : (t : Int) < 30 := by omega
                go_wp2
                go_quiet (fail)
                go_wp2
                go_roundw
                case rel => exact ⟨t + 1, by omega, by go_num, below_drewN HBR.out _⟩
                case measure => simp [intOf]; omega
              · have h30I : ¬ (t : Int) < 30 := by omega
                have h38I : (38 : Int) ≤ (t : Int) := by omega
                have h38J : (t : Int) < 38 + (n : Int) := by omega
                go_wp2
                go_quiet (fail)
                go_wp2
                go_roundw
                case rel => exact ⟨t + 1, by omega, by go_num, below_drewN HBR.out _⟩
                case measure => simp [intOf]; omega
            · have h30I : decide ((t : Int) < 30) = false := decide_eq_false (by omega)
              clear hya hyb
              by_cases h38 : 38 ≤ t
              · have h38I : (38 : Int) ≤ (t : Int) := by omega
                have h38J : decide ((t : Int) < 38 + (n : Int)) = false := decide_eq_false (by omega)
                clear hin
                go_wp2
                go_quiet (fail)
                go_wp2
                go_roundw
                case rel => exact ⟨t + 1, by omega, by go_num, below_drewN HBR.out _⟩
                case measure => simp [intOf]; omega
              · have h38I : decide ((38 : Int) ≤ (t : Int)) = false := decide_eq_false (by omega)
                clear hin
                go_wp2
                go_quiet (fail)
                go_wp2
                go_roundw
                case rel => exact ⟨t + 1, by omega, by go_num, below_drewN HBR.out _⟩
                case measure => simp [intOf]; omega
          · have XR : Hid (Below w.heap.size w wr) := below_mid X6.out HBR.out
            have s1 : Hid (∀ W, (Instr.slice 28 (.slice (some ⟨qa, 0, none⟩) (42 + n) (42 + n)) (some (.int .i64 30)) (some (.int .i64 38)) none).run Try.prog W = .ok (.slice (some ⟨qa, 30, none⟩) 8 (42 + n - 30)) W) := by
              intro W
              have h := slice_mid W (some ⟨qa, 0, none⟩) (42 + n) (42 + n) 30 8 (by omega)
              rw [if_neg (by omega)] at h
              simpa [Addr.add] using h
            have s2 : Hid (∀ W, (Instr.slice 28 (.slice (some ⟨qb, 0, none⟩) (42 + n) (42 + n)) (some (.int .i64 30)) (some (.int .i64 38)) none).run Try.prog W = .ok (.slice (some ⟨qb, 30, none⟩) 8 (42 + n - 30)) W) := by
              intro W
              have h := slice_mid W (some ⟨qb, 0, none⟩) (42 + n) (42 + n) 30 8 (by omega)
              rw [if_neg (by omega)] at h
              simpa [Addr.add] using h
            have SA : Hid (Bs wr (.slice (some ⟨qa, 30, none⟩) 8 (42 + n - 30)) (be n7 8)) := by
              have h := (BA.out.below HBR.out).mid 30 8 (by omega)
              rw [if_neg (by omega), HMA.out] at h
              have e : ((some (⟨qa, 0, none⟩ : Addr)).map (·.add (30 * 1))) = some ⟨qa, 30, none⟩ := by simp [Addr.add]
              rw [e] at h
              exact h
            have SB : Hid (Bs wr (.slice (some ⟨qb, 30, none⟩) 8 (42 + n - 30)) (be m7 8)) := by
              have h := (BB.out.below HBR.out).mid 30 8 (by omega)
              rw [if_neg (by omega), HMB.out] at h
              have e : ((some (⟨qb, 0, none⟩ : Addr)).map (·.add (30 * 1))) = some ⟨qb, 30, none⟩ := by simp [Addr.add]
              rw [e] at h
              exact h
            have KA : Hid (∀ W, Below wr.heap.size wr W → (convert 28 9 (.slice (some ⟨qa, 30, none⟩) 8 (42 + n - 30))).run Try.prog W = .ok (.string (str (be n7 8))) W) := fun W hW => conv_bytes (SA.out.below hW)
            have KB : Hid (∀ W, Below wr.heap.size wr W → (convert 28 9 (.slice (some ⟨qb, 30, none⟩) 8 (42 + n - 30))).run Try.prog W = .ok (.string (str (be m7 8))) W) := fun W hW => conv_bytes (SB.out.below hW)
            have hbe : (be n7 8 == be m7 8) = false := HBE.out
            generalize be n7 8 = ba at *
            generalize be m7 8 = bb at *
            clear SA SB BA BB OA OB
            go_wp2
            refine wp_region_any (by kernel_rfl) ?_
            obtain ⟨gs, hgs⟩ : ∃ gs : List (Value → World → Prop), gs = [IsV (Value.slice (some { block := qa, off := 0 }) (42 + n) (42 + n)), IsV (.slice (some ⟨qa, 30, none⟩) 8 (42 + n - 30)), IsV (.string (str ba)), IsV (Value.slice (some { block := qb, off := 0 }) (42 + n) (42 + n)), IsV (.slice (some ⟨qb, 30, none⟩) 8 (42 + n - 30)), IsV (.string (str bb)), IsV (.bool false), IsV (Value.bool false), IsV (.bool true), IsV (.bool true)] := ⟨_, rfl⟩
            have g0 : Hid (gs[0]? = some (IsV (Value.slice (some { block := qa, off := 0 }) (42 + n) (42 + n)))) := by unfold Hid; rw [hgs]; rfl
            have g1 : Hid (gs[1]? = some (IsV (.slice (some ⟨qa, 30, none⟩) 8 (42 + n - 30)))) := by unfold Hid; rw [hgs]; rfl
            have g2 : Hid (gs[2]? = some (IsV (.string (str ba)))) := by unfold Hid; rw [hgs]; rfl
            have g3 : Hid (gs[3]? = some (IsV (Value.slice (some { block := qb, off := 0 }) (42 + n) (42 + n)))) := by unfold Hid; rw [hgs]; rfl
            have g4 : Hid (gs[4]? = some (IsV (.slice (some ⟨qb, 30, none⟩) 8 (42 + n - 30)))) := by unfold Hid; rw [hgs]; rfl
            have g5 : Hid (gs[5]? = some (IsV (.string (str bb)))) := by unfold Hid; rw [hgs]; rfl
            have g6 : Hid (gs[6]? = some (IsV (.bool false))) := by unfold Hid; rw [hgs]; rfl
            have g7 : Hid (gs[7]? = some (IsV (Value.bool false))) := by unfold Hid; rw [hgs]; rfl
            have g8 : Hid (gs[8]? = some (IsV (.bool true))) := by unfold Hid; rw [hgs]; rfl
            have g9 : Hid (gs[9]? = some (IsV (.bool true))) := by unfold Hid; rw [hgs]; rfl
            have gk : Hid (∀ p ∈ gs, Stays p) := by
              unfold Hid
              rw [hgs]
              simp only [List.forall_mem_cons]
              exact ⟨stays_v _, stays_v _, stays_v _, stays_v _, stays_v _, stays_v _, stays_v _, stays_v _, stays_v _, stays_v _, by simp⟩
            clear hgs
            refine wpAny_inv (fun listed ac W => ∃ xv : Nat → Value, ac = ⟨#[Value.agg #[Value.int IntKind.u64 ↑n0, Value.int IntKind.i64 ↑n1, Value.int IntKind.i64 ↑n, Value.int IntKind.i64 ↑n3, Value.int IntKind.i64 ↑n4, Value.int IntKind.i64 ↑n5, Value.int IntKind.i64 ↑n6, Value.int IntKind.u64 ↑n7, Value.slice pa n pk], Value.int IntKind.u64 ↑m7, Value.pointer (some { block := w.heap.size, off := 0 }), undef, xv 9, Value.pointer (some { block := c, off := 0 }), Value.slice (some { block := qa, off := 0 }) (42 + n) (42 + n), Value.int IntKind.i64 (0 : Int), Value.bool false, Value.slice (some { block := qb, off := 0 }) (42 + n) (42 + n), Value.int IntKind.i64 (0 : Int), u11, Value.bool true, Value.bool false, Value.pointer (some { block := w.heap.size, off := 8 }), Value.slice pa n pk, Value.int IntKind.i64 ↑n, Value.bool (decide ((300 : Int) < ↑n)), Value.pointer (some { block := c, off := 0 }), Value.tuple #[Value.slice (some { block := qa, off := 0 }) (42 + n) (42 + n), Value.int IntKind.i64 (0 : Int)], Value.pointer (some { block := c, off := 0 }), Value.agg #[Value.int IntKind.u64 ↑n0, Value.int IntKind.i64 ↑n1, Value.int IntKind.i64 ↑n, Value.int IntKind.i64 ↑n3, Value.int IntKind.i64 ↑n4, Value.int IntKind.i64 ↑n5, Value.int IntKind.i64 ↑n6, Value.int IntKind.u64 ↑n7, Value.slice pa n pk], Value.tuple #[Value.slice (some { block := qa, off := 0 }) (42 + n) (42 + n), Value.int IntKind.i64 (0 : Int)], Value.slice (some { block := qa, off := 0 }) (42 + n) (42 + n), Value.int IntKind.i64 (0 : Int), Value.int IntKind.i64 (0 : Int), Value.bool false, Value.pointer (some { block := w.heap.size, off := 0 }), Value.pointer (some { block := w.heap.size, off := 7 }), Value.int IntKind.u64 ↑n7, Value.int IntKind.u64 ↑m7, Value.bool false, Value.int IntKind.u64 ↑m7, Value.pointer (some { block := w.heap.size, off := 0 }), Value.pointer (some { block := w.heap.size, off := 7 }), Value.tuple #[Value.slice (some { block := qb, off := 0 }) (42 + n) (42 + n), Value.int IntKind.i64 (0 : Int)], Value.pointer (some { block := c, off := 0 }), Value.agg #[Value.int IntKind.u64 ↑n0, Value.int IntKind.i64 ↑n1, Value.int IntKind.i64 ↑n, Value.int IntKind.i64 ↑n3, Value.int IntKind.i64 ↑n4, Value.int IntKind.i64 ↑n5, Value.int IntKind.i64 ↑n6, Value.int IntKind.u64 ↑m7, Value.slice pa n pk], Value.tuple #[Value.slice (some { block := qb, off := 0 }) (42 + n) (42 + n), Value.int IntKind.i64 (0 : Int)], Value.slice (some { block := qb, off := 0 }) (42 + n) (42 + n), Value.int IntKind.i64 (0 : Int), Value.int IntKind.i64 (0 : Int), Value.bool false, Value.bool false, Value.slice (some { block := qa, off := 0 }) (42 + n) (42 + n), Value.int IntKind.i64 ((42 : Int) + ↑n), Value.slice (some { block := qb, off := 0 }) (42 + n) (42 + n), Value.int IntKind.i64 ((42 : Int) + ↑n), Value.bool false, Value.bool false, Value.bool false, Value.slice (some { block := qa, off := 0 }) (42 + n) (42 + n), Value.string (str fa), Value.slice (some { block := qb, off := 0 }) (42 + n) (42 + n), Value.string (str fb), Value.bool false, Value.bool false, Value.bool false, Value.bool false, Value.slice (some { block := qa, off := 0 }) (42 + n) (42 + n), Value.int IntKind.i64 ((42 : Int) + ↑n), Value.int IntKind.i64 ↑t, Value.bool (decide (↑t < (42 : Int) + ↑n)), u63, u64, u65, u66, u67, u68, u69, u70, u71, u72, u73, u74, u75, u76, u77, u78, u79, u80, u81, u82, u83, u84, u85, u86, u87, u88, xv 0, xv 1, xv 2, xv 3, xv 4, xv 5, xv 6, xv 7, xv 8], []⟩ ∧ Below wr.heap.size wr W ∧ Lst gs listed xv W) (by kernel_rfl) ?_ ?_ _ _ _ _ (by kernel_rfl) (of_decide_eq_true (by kernel_rfl)) ⟨fun j => if j = 9 then u4 else undef, rfl, below0 _, Lst.start _ _ _ _⟩
            · rintro listed ac W ⟨xv, rfl, hb, hG⟩ i hi hd
              have hin : i < 10 := hi
              clear hi
              have hcase : i = 0 ∨ i = 1 ∨ i = 2 ∨ i = 3 ∨ i = 4 ∨ i = 5 ∨ i = 6 ∨ i = 7 ∨ i = 8 ∨ i = 9 := by omega
              rcases hcase with rfl | rfl | rfl | rfl | rfl | rfl | rfl | rfl | rfl | rfl
              · refine wpOp_step rfl (fun K' hK => ?_)
                clear hd hin
                go_simp
                exact hK _ _ ⟨updV xv 0 (Value.slice (some { block := qa, off := 0 }) (42 + n) (42 + n)), by simp [updV], hb, hG.same gk.out g0.out _ rfl⟩
              · refine wpOp_step rfl (fun K' hK => ?_)
                simp [Region.binds] at hd
                have e0 : xv 0 = Value.slice (some { block := qa, off := 0 }) (42 + n) (42 + n) := hG.get g0.out (by simp [hd])
                have kr := s1.out W
                clear hd hin
                go_simp
                exact hK _ _ ⟨updV xv 1 (.slice (some ⟨qa, 30, none⟩) 8 (42 + n - 30)), by simp [updV, e0], hb, hG.same gk.out g1.out _ rfl⟩
              · refine wpOp_step rfl (fun K' hK => ?_)
                simp [Region.binds] at hd
                have e1 : xv 1 = .slice (some ⟨qa, 30, none⟩) 8 (42 + n - 30) := hG.get g1.out (by simp [hd])
                have kr := KA.out W hb
                clear hd hin
                go_simp
                exact hK _ _ ⟨updV xv 2 (.string (str ba)), by simp [updV, e1], hb, hG.same gk.out g2.out _ rfl⟩
              · refine wpOp_step rfl (fun K' hK => ?_)
                clear hd hin
                go_simp
                exact hK _ _ ⟨updV xv 3 (Value.slice (some { block := qb, off := 0 }) (42 + n) (42 + n)), by simp [updV], hb, hG.same gk.out g3.out _ rfl⟩
              · refine wpOp_step rfl (fun K' hK => ?_)
                simp [Region.binds] at hd
                have e3 : xv 3 = Value.slice (some { block := qb, off := 0 }) (42 + n) (42 + n) := hG.get g3.out (by simp [hd])
                have kr := s2.out W
                clear hd hin
                go_simp
                exact hK _ _ ⟨updV xv 4 (.slice (some ⟨qb, 30, none⟩) 8 (42 + n - 30)), by simp [updV, e3], hb, hG.same gk.out g4.out _ rfl⟩
              · refine wpOp_step rfl (fun K' hK => ?_)
                simp [Region.binds] at hd
                have e4 : xv 4 = .slice (some ⟨qb, 30, none⟩) 8 (42 + n - 30) := hG.get g4.out (by simp [hd])
                have kr := KB.out W hb
                clear hd hin
                go_simp
                exact hK _ _ ⟨updV xv 5 (.string (str bb)), by simp [updV, e4], hb, hG.same gk.out g5.out _ rfl⟩
              · refine wpOp_step rfl (fun K' hK => ?_)
                simp [Region.binds] at hd
                have e2 : xv 2 = .string (str ba) := hG.get g2.out (by simp [hd])
                have e5 : xv 5 = .string (str bb) := hG.get g5.out (by simp [hd])
                have hst := str_toList
                clear hd hin
                go_simp
                exact hK _ _ ⟨updV xv 6 (.bool false), by simp [updV, e2, e5], hb, hG.same gk.out g6.out _ rfl⟩
              · refine wpOp_step rfl (fun K' hK => ?_)
                clear hd hin
                go_simp
                exact hK _ _ ⟨updV xv 7 (Value.bool false), by simp [updV], hb, hG.same gk.out g7.out _ rfl⟩
              · refine wpOp_step rfl (fun K' hK => ?_)
                simp [Region.binds] at hd
                have e6 : xv 6 = .bool false := hG.get g6.out (by simp [hd])
                have e7 : xv 7 = Value.bool false := hG.get g7.out (by simp [hd])
                clear hd hin
                go_simp
                exact hK _ _ ⟨updV xv 8 (.bool true), by simp [updV, e6, e7], hb, hG.same gk.out g8.out _ rfl⟩
              · refine wpOp_step rfl (fun K' hK => ?_)
                simp [Region.binds] at hd
                have e8 : xv 8 = .bool true := hG.get g8.out (by simp [hd])
                clear hd hin
                go_simp
                exact hK _ _ ⟨updV xv 9 (.bool true), by simp [updV, e8], hb, hG.same gk.out g9.out _ rfl⟩
            · rintro listed ac W ⟨xv, rfl, hb, hG⟩ hall
              have e9 : xv 9 = .bool true := hG.get g9.out (hall 9 (by decide))
              have XW : Hid (Below wr.heap.size wr W) := hb
              clear hall hG hb gk g0 g1 g2 g3 g4 g5 g6 g7 g8 g9
              rw [e9]
              clear e9
              go_wp2
              go_ret
              exact ⟨rfl, below_mid XR.out XW.out⟩
    · go_wp2_with fail
      refine (enc_len c S N B Q E F L I pa n pk w2 hm hlen).mono ?_
      rintro e w3 ⟨rfl, hb3⟩
      have X3 : Hid (Below w.heap.size w w3) := below_mid X2.out hb3
      clear hb3 X2 N2 FZ2 c0 c1 c2 c3 c4 c5 c6 c7 c8 hm
      go_wp2
      go_ret
      exact ⟨rfl, X3.out⟩
  · go_wp2_with fail
    refine (enc_no c S N B Q E F L I (.slice pa n pk) w2 hm).mono ?_
    rintro e w3 ⟨rfl, hb3⟩
    have X3 : Hid (Below w.heap.size w w3) := below_mid X2.out hb3
    clear hb3 X2 N2 FZ2 c0 c1 c2 c3 c4 c5 c6 c7 c8 hm
    go_wp2
    go_ret
    exact ⟨rfl, X3.out⟩

end Go.Proofs.Ytijonjiioeahhaa
