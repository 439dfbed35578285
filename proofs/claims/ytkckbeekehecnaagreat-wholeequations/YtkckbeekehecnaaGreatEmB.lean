/-
  emit: made, Packet.
-/
import Derived.Test.YtkckbeekehecnaaGreatEmA
import Derived.Test.YtkckbeekehecnaaGreatZFr
namespace Go.Proofs.YtkckbeekehecnaaGreat
open Go.RowKit
set_option linter.unusedVariables false

set_option maxRecDepth 100000 in
set_option maxHeartbeats 2000000 in
/-- made: where all are there. -/
theorem emade_yes (B0 p S N B Q E F L K : Nat) (D : List (List UInt8)) (ov : Value) (of : List Int) (w : World) (h : Enc B0 w p S N B Q E F L K D) (hB : B ≤ 65535) (ho : Zs w ov of) (hok : OkOf B D of) :
    Calls Tryz.prog 31 #[.pointer (some ⟨p, 0, none⟩), ov] w fun e w' => ∃ q, e = .returned (.slice (some ⟨q, 0, none⟩) B B) ∧ w.heap.size ≤ q ∧ Blk w' q [] (chkD B D of) [] ∧ Below w.heap.size w w' := by
  obtain ⟨a, t, co, g, ca, cc, vs, hE⟩ := h
  have HE : Hid (IsEnc B0 w p a t co g S N B Q E F L K ca cc vs D) := hE
  have HO : Hid (Zs w ov of) := ho
  have HK : Hid (OkOf B D of) := hok
  obtain ⟨-, oa, oc, rfl, -, -, -, -⟩ := ho
  have BX : Hid (∀ W, Below w.heap.size w W → EncC W p a co S N B Q E F L K ca cc) := fun W hW => (HE.out.below hW).cells
  obtain ⟨x, hx⟩ : ∃ x, chkD B D of = x := ⟨_, rfl⟩
  have CC : Hid (∀ W, Below w.heap.size w W → Calls Tryz.prog 21 #[.int .i64 B, .slice ca K cc, .slice oa of.length oc] W fun e w' => ∃ v, e = .returned v ∧ IsCk w.heap.size B x v w' ∧ Below W.heap.size W w') := by
    intro W hW
    have hr := (HE.out.below hW)
    refine (check_yes B _ _ vs D of W (by omega) (by have e : vs.length = K := by have := hr.row.1; omega
                                                     rw [e]; exact owned_sl hr.row) hr.bl.parts (HO.out.below hW) HK.out).mono ?_
    rintro e w' ⟨rfl, h1, h2⟩
    rw [hx] at h1
    exact ⟨_, rfl, ⟨_, rfl, hW.size, h1⟩, h2⟩
  rw [hx]
  clear hE hok hx
  generalize of.length = m at *
  go_enter Tryz.func31, Tryz.ntmps31
  go_upto_region 1 with fail
  refine wp_region_any (by kernel_rfl) ?_
  obtain ⟨gs, hgs⟩ : ∃ gs : List (Value → World → Prop), gs = [IsV (Value.pointer (some { block := p, off := 0 })), IsV (Value.pointer (some { block := p, off := 0 })), IsV (.pointer (some ⟨p, 2, none⟩)), IsV (.pointer (some ⟨p, 3, none⟩)), IsV (.pointer (some ⟨p, 4, none⟩)), IsV (.int .i64 (B : Int)), IsV (Value.pointer (some { block := p, off := 0 })), IsV (Value.pointer (some { block := p, off := 0 })), IsV (.pointer (some ⟨p, 10, none⟩)), IsV (.slice ca K cc), IsV (Value.slice oa m oc), IsAnyV, IsAnyV, IsAnyV, IsV (.bool true), IsAnyV, IsV (.bool true)] := ⟨_, rfl⟩
  have g0 : Hid (gs[0]? = some (IsV (Value.pointer (some { block := p, off := 0 })))) := by unfold Hid; rw [hgs]; rfl
  have g1 : Hid (gs[1]? = some (IsV (Value.pointer (some { block := p, off := 0 })))) := by unfold Hid; rw [hgs]; rfl
  have g2 : Hid (gs[2]? = some (IsV (.pointer (some ⟨p, 2, none⟩)))) := by unfold Hid; rw [hgs]; rfl
  have g3 : Hid (gs[3]? = some (IsV (.pointer (some ⟨p, 3, none⟩)))) := by unfold Hid; rw [hgs]; rfl
  have g4 : Hid (gs[4]? = some (IsV (.pointer (some ⟨p, 4, none⟩)))) := by unfold Hid; rw [hgs]; rfl
  have g5 : Hid (gs[5]? = some (IsV (.int .i64 (B : Int)))) := by unfold Hid; rw [hgs]; rfl
  have g6 : Hid (gs[6]? = some (IsV (Value.pointer (some { block := p, off := 0 })))) := by unfold Hid; rw [hgs]; rfl
  have g7 : Hid (gs[7]? = some (IsV (Value.pointer (some { block := p, off := 0 })))) := by unfold Hid; rw [hgs]; rfl
  have g8 : Hid (gs[8]? = some (IsV (.pointer (some ⟨p, 10, none⟩)))) := by unfold Hid; rw [hgs]; rfl
  have g9 : Hid (gs[9]? = some (IsV (.slice ca K cc))) := by unfold Hid; rw [hgs]; rfl
  have g10 : Hid (gs[10]? = some (IsV (Value.slice oa m oc))) := by unfold Hid; rw [hgs]; rfl
  have g11 : Hid (gs[11]? = some (IsAnyV)) := by unfold Hid; rw [hgs]; rfl
  have g12 : Hid (gs[12]? = some (IsAnyV)) := by unfold Hid; rw [hgs]; rfl
  have g13 : Hid (gs[13]? = some (IsAnyV)) := by unfold Hid; rw [hgs]; rfl
  have g14 : Hid (gs[14]? = some (IsV (.bool true))) := by unfold Hid; rw [hgs]; rfl
  have g15 : Hid (gs[15]? = some (IsAnyV)) := by unfold Hid; rw [hgs]; rfl
  have g16 : Hid (gs[16]? = some (IsV (.bool true))) := by unfold Hid; rw [hgs]; rfl
  have gk : Hid (∀ p ∈ gs, ∀ v (U U' : World), p v U → p v U') := by
    unfold Hid
    rw [hgs]
    simp only [List.forall_mem_cons]
    exact ⟨(fun _ _ _ h => h), (fun _ _ _ h => h), (fun _ _ _ h => h), (fun _ _ _ h => h), (fun _ _ _ h => h), (fun _ _ _ h => h), (fun _ _ _ h => h), (fun _ _ _ h => h), (fun _ _ _ h => h), (fun _ _ _ h => h), (fun _ _ _ h => h), (fun _ _ _ h => h), (fun _ _ _ h => h), (fun _ _ _ h => h), (fun _ _ _ h => h), (fun _ _ _ h => h), (fun _ _ _ h => h), by simp⟩
  clear hgs
  have JS : Hid (∀ W W', Below W.heap.size W W' → (fun W => Below w.heap.size w W) W → (fun W => Below w.heap.size w W) W') := fun W W' hb h => h.trans (hb.mono h.size)
  have st11 : Hid (Stays (IsCk w.heap.size B x)) := stays_ck _ _ _
  have st12 : Hid (Stays (IsCk w.heap.size B x)) := stays_ck _ _ _
  have st13 : Hid (Stays (IsCb w.heap.size B x)) := stays_cb _ _ _
  have st15 : Hid (Stays (IsCb w.heap.size B x)) := stays_cb _ _ _
  refine wpAny_inv4 (fun listed ac W => ∃ xv : Nat → Value, ac = ⟨#[Value.pointer (some { block := p, off := 0 }), Value.slice oa m oc, undef, undef, Value.slice none 0 0, xv 15, xv 16, xv 12, xv 0, xv 1, xv 2, xv 3, xv 4, xv 5, xv 6, xv 7, xv 8, xv 9, xv 10, xv 11, xv 13, xv 14, undef], []⟩ ∧ (fun W => Below w.heap.size w W) W ∧ Lst gs listed xv W ∧ Fe listed xv W 11 (IsCk w.heap.size B x) ∧ Fe listed xv W 12 (IsCk w.heap.size B x) ∧ Fe listed xv W 13 (IsCb w.heap.size B x) ∧ Fe listed xv W 15 (IsCb w.heap.size B x)) (by kernel_rfl) ?_ ?_ _ _ _ _ (by kernel_rfl) (of_decide_eq_true (by kernel_rfl)) (Down.start _) ⟨fun jx => undef, rfl, below0 _, Lst.start _ _ _ _, Fe.start _ _ _ _ _, Fe.start _ _ _ _ _, Fe.start _ _ _ _ _, Fe.start _ _ _ _ _⟩
  · rintro listed ac W ⟨xv, rfl, hb, hG, hF11, hF12, hF13, hF15⟩ hD i hi hnl hd
    have hin : i < 17 := hi
    clear hi
    have hcase : i = 0 ∨ i = 1 ∨ i = 2 ∨ i = 3 ∨ i = 4 ∨ i = 5 ∨ i = 6 ∨ i = 7 ∨ i = 8 ∨ i = 9 ∨ i = 10 ∨ i = 11 ∨ i = 12 ∨ i = 13 ∨ i = 14 ∨ i = 15 ∨ i = 16 := by omega
    rcases hcase with rfl | rfl | rfl | rfl | rfl | rfl | rfl | rfl | rfl | rfl | rfl | rfl | rfl | rfl | rfl | rfl | rfl
    · refine wpOp_step rfl (fun K' hK => ?_)
      clear hd hin hD
      go_simp
      exact hK _ _ ⟨updV xv 0 (Value.pointer (some { block := p, off := 0 })), by simp [updV], hb, hG.any gk.out g0.out _ rfl, hF11.step (fun _ h => h) (by decide) _, hF12.step (fun _ h => h) (by decide) _, hF13.step (fun _ h => h) (by decide) _, hF15.step (fun _ h => h) (by decide) _⟩
    · refine wpOp_step rfl (fun K' hK => ?_)
      simp [Region.binds] at hd
      have e0 : xv 0 = Value.pointer (some { block := p, off := 0 }) := hG.get g0.out (by simp [hd])
      clear hd hin hD
      go_simp
      exact hK _ _ ⟨updV xv 1 (Value.pointer (some { block := p, off := 0 })), by simp [updV, e0], hb, hG.any gk.out g1.out _ rfl, hF11.step (fun _ h => h) (by decide) _, hF12.step (fun _ h => h) (by decide) _, hF13.step (fun _ h => h) (by decide) _, hF15.step (fun _ h => h) (by decide) _⟩
    · refine wpOp_step rfl (fun K' hK => ?_)
      simp [Region.binds] at hd
      have e1 : xv 1 = Value.pointer (some { block := p, off := 0 }) := hG.get g1.out (by simp [hd])
      clear hd hin hD
      go_simp
      exact hK _ _ ⟨updV xv 2 (.pointer (some ⟨p, 2, none⟩)), by simp [updV, e1], hb, hG.any gk.out g2.out _ rfl, hF11.step (fun _ h => h) (by decide) _, hF12.step (fun _ h => h) (by decide) _, hF13.step (fun _ h => h) (by decide) _, hF15.step (fun _ h => h) (by decide) _⟩
    · refine wpOp_step rfl (fun K' hK => ?_)
      simp [Region.binds] at hd
      have e2 : xv 2 = .pointer (some ⟨p, 2, none⟩) := hG.get g2.out (by simp [hd])
      clear hd hin hD
      go_simp
      exact hK _ _ ⟨updV xv 3 (.pointer (some ⟨p, 3, none⟩)), by simp [updV, e2], hb, hG.any gk.out g3.out _ rfl, hF11.step (fun _ h => h) (by decide) _, hF12.step (fun _ h => h) (by decide) _, hF13.step (fun _ h => h) (by decide) _, hF15.step (fun _ h => h) (by decide) _⟩
    · refine wpOp_step rfl (fun K' hK => ?_)
      simp [Region.binds] at hd
      have e3 : xv 3 = .pointer (some ⟨p, 3, none⟩) := hG.get g3.out (by simp [hd])
      clear hd hin hD
      go_simp
      exact hK _ _ ⟨updV xv 4 (.pointer (some ⟨p, 4, none⟩)), by simp [updV, e3], hb, hG.any gk.out g4.out _ rfl, hF11.step (fun _ h => h) (by decide) _, hF12.step (fun _ h => h) (by decide) _, hF13.step (fun _ h => h) (by decide) _, hF15.step (fun _ h => h) (by decide) _⟩
    · refine wpOp_step rfl (fun K' hK => ?_)
      simp [Region.binds] at hd
      have e4 : xv 4 = .pointer (some ⟨p, 4, none⟩) := hG.get g4.out (by simp [hd])
      obtain ⟨c0, c1, c2, c3, c4, c5, c6, c7, c8, c9, c10⟩ := BX.out W hb
      clear hd hin hD
      go_simp
      exact hK _ _ ⟨updV xv 5 (.int .i64 (B : Int)), by simp [updV, e4], hb, hG.any gk.out g5.out _ rfl, hF11.step (fun _ h => h) (by decide) _, hF12.step (fun _ h => h) (by decide) _, hF13.step (fun _ h => h) (by decide) _, hF15.step (fun _ h => h) (by decide) _⟩
    · refine wpOp_step rfl (fun K' hK => ?_)
      clear hd hin hD
      go_simp
      exact hK _ _ ⟨updV xv 6 (Value.pointer (some { block := p, off := 0 })), by simp [updV], hb, hG.any gk.out g6.out _ rfl, hF11.step (fun _ h => h) (by decide) _, hF12.step (fun _ h => h) (by decide) _, hF13.step (fun _ h => h) (by decide) _, hF15.step (fun _ h => h) (by decide) _⟩
    · refine wpOp_step rfl (fun K' hK => ?_)
      simp [Region.binds] at hd
      have e6 : xv 6 = Value.pointer (some { block := p, off := 0 }) := hG.get g6.out (by simp [hd])
      clear hd hin hD
      go_simp
      exact hK _ _ ⟨updV xv 7 (Value.pointer (some { block := p, off := 0 })), by simp [updV, e6], hb, hG.any gk.out g7.out _ rfl, hF11.step (fun _ h => h) (by decide) _, hF12.step (fun _ h => h) (by decide) _, hF13.step (fun _ h => h) (by decide) _, hF15.step (fun _ h => h) (by decide) _⟩
    · refine wpOp_step rfl (fun K' hK => ?_)
      simp [Region.binds] at hd
      have e7 : xv 7 = Value.pointer (some { block := p, off := 0 }) := hG.get g7.out (by simp [hd])
      clear hd hin hD
      go_simp
      exact hK _ _ ⟨updV xv 8 (.pointer (some ⟨p, 10, none⟩)), by simp [updV, e7], hb, hG.any gk.out g8.out _ rfl, hF11.step (fun _ h => h) (by decide) _, hF12.step (fun _ h => h) (by decide) _, hF13.step (fun _ h => h) (by decide) _, hF15.step (fun _ h => h) (by decide) _⟩
    · refine wpOp_step rfl (fun K' hK => ?_)
      simp [Region.binds] at hd
      have e8 : xv 8 = .pointer (some ⟨p, 10, none⟩) := hG.get g8.out (by simp [hd])
      obtain ⟨c0, c1, c2, c3, c4, c5, c6, c7, c8, c9, c10⟩ := BX.out W hb
      clear hd hin hD
      go_simp
      exact hK _ _ ⟨updV xv 9 (.slice ca K cc), by simp [updV, e8], hb, hG.any gk.out g9.out _ rfl, hF11.step (fun _ h => h) (by decide) _, hF12.step (fun _ h => h) (by decide) _, hF13.step (fun _ h => h) (by decide) _, hF15.step (fun _ h => h) (by decide) _⟩
    · refine wpOp_step rfl (fun K' hK => ?_)
      clear hd hin hD
      go_simp
      exact hK _ _ ⟨updV xv 10 (Value.slice oa m oc), by simp [updV], hb, hG.any gk.out g10.out _ rfl, hF11.step (fun _ h => h) (by decide) _, hF12.step (fun _ h => h) (by decide) _, hF13.step (fun _ h => h) (by decide) _, hF15.step (fun _ h => h) (by decide) _⟩
    · refine wpOp_step rfl (fun K' hK => ?_)
      simp [Region.binds] at hd
      have e5 : xv 5 = .int .i64 (B : Int) := hG.get g5.out (by simp [hd])
      have e9 : xv 9 = .slice ca K cc := hG.get g9.out (by simp [hd])
      have e10 : xv 10 = Value.slice oa m oc := hG.get g10.out (by simp [hd])
      clear hd hin hD
      go_simp
      refine (CC.out W hb).mono ?_
      rintro e w' ⟨v, rfl, hv, hb'⟩
      go_wp2_with fail
      exact ⟨updV xv 11 v, by simp [updV, e5, e9, e10], JS.out _ _ hb' hb, hG.any gk.out g11.out v trivial, Fe.new (hv), hF12.on st12.out hb' (by decide) _, hF13.on st13.out hb' (by decide) _, hF15.on st15.out hb' (by decide) _⟩
    · refine wpOp_step rfl (fun K' hK => ?_)
      simp [Region.binds] at hd
      have l11 : listed.getD 11 false = true := by simp [hd]
      have m11 := hF11 l11
      clear hd hin hD
      go_simp
      exact hK _ _ ⟨updV xv 12 (xv 11), by simp [updV], hb, hG.any gk.out g12.out _ trivial, hF11.step (fun _ h => h) (by decide) _, Fe.new (m11), hF13.step (fun _ h => h) (by decide) _, hF15.step (fun _ h => h) (by decide) _⟩
    · refine wpOp_step rfl (fun K' hK => ?_)
      simp [Region.binds] at hd
      have l12 : listed.getD 12 false = true := by simp [hd]
      have m12 := hF12 l12
      clear hd hin hD
      obtain ⟨q7, e7, h7, k7⟩ := m12
      go_simp
      exact hK _ _ ⟨updV xv 13 (.slice (some ⟨q7, 0, none⟩) B B), by simp [updV, e7], hb, hG.any gk.out g13.out _ trivial, hF11.step (fun _ h => h) (by decide) _, hF12.step (fun _ h => h) (by decide) _, Fe.new (⟨q7, rfl, h7, k7⟩), hF15.step (fun _ h => h) (by decide) _⟩
    · refine wpOp_step rfl (fun K' hK => ?_)
      simp [Region.binds] at hd
      have l12 : listed.getD 12 false = true := by simp [hd]
      have m12 := hF12 l12
      clear hd hin hD
      obtain ⟨q7, e7, h7, k7⟩ := m12
      go_simp
      exact hK _ _ ⟨updV xv 14 (.bool true), by simp [updV, e7], hb, hG.any gk.out g14.out _ rfl, hF11.step (fun _ h => h) (by decide) _, hF12.step (fun _ h => h) (by decide) _, hF13.step (fun _ h => h) (by decide) _, hF15.step (fun _ h => h) (by decide) _⟩
    · refine wpOp_step rfl (fun K' hK => ?_)
      simp [Region.binds] at hd
      have l13 : listed.getD 13 false = true := by simp [hd]
      have m13 := hF13 l13
      clear hd hin hD
      go_simp
      exact hK _ _ ⟨updV xv 15 (xv 13), by simp [updV], hb, hG.any gk.out g15.out _ trivial, hF11.step (fun _ h => h) (by decide) _, hF12.step (fun _ h => h) (by decide) _, hF13.step (fun _ h => h) (by decide) _, Fe.new (m13)⟩
    · refine wpOp_step rfl (fun K' hK => ?_)
      simp [Region.binds] at hd
      have e14 : xv 14 = .bool true := hG.get g14.out (by simp [hd])
      clear hd hin hD
      go_simp
      exact hK _ _ ⟨updV xv 16 (.bool true), by simp [updV, e14], hb, hG.any gk.out g16.out _ rfl, hF11.step (fun _ h => h) (by decide) _, hF12.step (fun _ h => h) (by decide) _, hF13.step (fun _ h => h) (by decide) _, hF15.step (fun _ h => h) (by decide) _⟩
  · rintro listed ac W ⟨xv, rfl, hb, hG, hF11, hF12, hF13, hF15⟩ hall
    have m15 : Hid ((IsCb w.heap.size B x) (xv 15) W) := hF15 (hall 15 (by decide))
    have e16 : xv 16 = .bool true := hG.get g16.out (hall 16 (by decide))
    have XW : Hid ((fun W => Below w.heap.size w W) W) := hb
    clear hall hG hb gk JS g0 g1 g2 g3 g4 g5 g6 g7 g8 g9 g10 g11 g12 g13 g14 g15 g16 hF11 st11 hF12 st12 hF13 st13 hF15 st15
    rw [e16]
    clear e16
    obtain ⟨q, e15, hq, kq⟩ := m15.out
    rw [e15]
    have RR : Hid (w.heap.size ≤ q ∧ Blk W q [] x [] ∧ Below w.heap.size w W) := ⟨hq, kq, XW.out⟩
    clear m15 e15 hq kq XW BX CC
    go_wp2
    go_ret
    exact ⟨q, rfl, RR.out⟩

set_option maxRecDepth 100000 in
set_option maxHeartbeats 2000000 in
/-- made: where one isn't there: none. -/
theorem emade_no (B0 p S N B Q E F L K : Nat) (D : List (List UInt8)) (ov : Value) (of : List Int) (w : World) (h : Enc B0 w p S N B Q E F L K D) (hB : B ≤ 65535) (ho : Zs w ov of) (hok : ¬ OkOf B D of) :
    Calls Tryz.prog 31 #[.pointer (some ⟨p, 0, none⟩), ov] w fun e w' => e = .returned (.slice none 0 0) ∧ Below w.heap.size w w' := by
  obtain ⟨a, t, co, g, ca, cc, vs, hE⟩ := h
  have HE : Hid (IsEnc B0 w p a t co g S N B Q E F L K ca cc vs D) := hE
  have HO : Hid (Zs w ov of) := ho
  have HK : Hid (¬ OkOf B D of) := hok
  obtain ⟨-, oa, oc, rfl, -, -, -, -⟩ := ho
  have BX : Hid (∀ W, Below w.heap.size w W → EncC W p a co S N B Q E F L K ca cc) := fun W hW => (HE.out.below hW).cells
  have CC : Hid (∀ W, Below w.heap.size w W → Calls Tryz.prog 21 #[.int .i64 B, .slice ca K cc, .slice oa of.length oc] W fun e w' => ∃ v, e = .returned v ∧ IsV (.tuple #[.slice none 0 0, .bool false]) v w' ∧ Below W.heap.size W w') := by
    intro W hW
    have hr := (HE.out.below hW)
    refine (check_bad B _ _ vs D of W (by omega) (by have e : vs.length = K := by have := hr.row.1; omega
                                                     rw [e]; exact owned_sl hr.row) hr.bl.parts (HO.out.below hW) HK.out).mono ?_
    rintro e w' ⟨rfl, h2⟩
    exact ⟨_, rfl, rfl, h2⟩
  clear hE hok
  generalize of.length = m at *
  go_enter Tryz.func31, Tryz.ntmps31
  go_upto_region 1 with fail
  refine wp_region_any (by kernel_rfl) ?_
  obtain ⟨gs, hgs⟩ : ∃ gs : List (Value → World → Prop), gs = [IsV (Value.pointer (some { block := p, off := 0 })), IsV (Value.pointer (some { block := p, off := 0 })), IsV (.pointer (some ⟨p, 2, none⟩)), IsV (.pointer (some ⟨p, 3, none⟩)), IsV (.pointer (some ⟨p, 4, none⟩)), IsV (.int .i64 (B : Int)), IsV (Value.pointer (some { block := p, off := 0 })), IsV (Value.pointer (some { block := p, off := 0 })), IsV (.pointer (some ⟨p, 10, none⟩)), IsV (.slice ca K cc), IsV (Value.slice oa m oc), IsV (.tuple #[.slice none 0 0, .bool false]), IsV (.tuple #[.slice none 0 0, .bool false]), IsV (.slice none 0 0), IsV (.bool false), IsV (.slice none 0 0), IsV (.bool false)] := ⟨_, rfl⟩
  have g0 : Hid (gs[0]? = some (IsV (Value.pointer (some { block := p, off := 0 })))) := by unfold Hid; rw [hgs]; rfl
  have g1 : Hid (gs[1]? = some (IsV (Value.pointer (some { block := p, off := 0 })))) := by unfold Hid; rw [hgs]; rfl
  have g2 : Hid (gs[2]? = some (IsV (.pointer (some ⟨p, 2, none⟩)))) := by unfold Hid; rw [hgs]; rfl
  have g3 : Hid (gs[3]? = some (IsV (.pointer (some ⟨p, 3, none⟩)))) := by unfold Hid; rw [hgs]; rfl
  have g4 : Hid (gs[4]? = some (IsV (.pointer (some ⟨p, 4, none⟩)))) := by unfold Hid; rw [hgs]; rfl
  have g5 : Hid (gs[5]? = some (IsV (.int .i64 (B : Int)))) := by unfold Hid; rw [hgs]; rfl
  have g6 : Hid (gs[6]? = some (IsV (Value.pointer (some { block := p, off := 0 })))) := by unfold Hid; rw [hgs]; rfl
  have g7 : Hid (gs[7]? = some (IsV (Value.pointer (some { block := p, off := 0 })))) := by unfold Hid; rw [hgs]; rfl
  have g8 : Hid (gs[8]? = some (IsV (.pointer (some ⟨p, 10, none⟩)))) := by unfold Hid; rw [hgs]; rfl
  have g9 : Hid (gs[9]? = some (IsV (.slice ca K cc))) := by unfold Hid; rw [hgs]; rfl
  have g10 : Hid (gs[10]? = some (IsV (Value.slice oa m oc))) := by unfold Hid; rw [hgs]; rfl
  have g11 : Hid (gs[11]? = some (IsV (.tuple #[.slice none 0 0, .bool false]))) := by unfold Hid; rw [hgs]; rfl
  have g12 : Hid (gs[12]? = some (IsV (.tuple #[.slice none 0 0, .bool false]))) := by unfold Hid; rw [hgs]; rfl
  have g13 : Hid (gs[13]? = some (IsV (.slice none 0 0))) := by unfold Hid; rw [hgs]; rfl
  have g14 : Hid (gs[14]? = some (IsV (.bool false))) := by unfold Hid; rw [hgs]; rfl
  have g15 : Hid (gs[15]? = some (IsV (.slice none 0 0))) := by unfold Hid; rw [hgs]; rfl
  have g16 : Hid (gs[16]? = some (IsV (.bool false))) := by unfold Hid; rw [hgs]; rfl
  have gk : Hid (∀ p ∈ gs, ∀ v (U U' : World), p v U → p v U') := by
    unfold Hid
    rw [hgs]
    simp only [List.forall_mem_cons]
    exact ⟨(fun _ _ _ h => h), (fun _ _ _ h => h), (fun _ _ _ h => h), (fun _ _ _ h => h), (fun _ _ _ h => h), (fun _ _ _ h => h), (fun _ _ _ h => h), (fun _ _ _ h => h), (fun _ _ _ h => h), (fun _ _ _ h => h), (fun _ _ _ h => h), (fun _ _ _ h => h), (fun _ _ _ h => h), (fun _ _ _ h => h), (fun _ _ _ h => h), (fun _ _ _ h => h), (fun _ _ _ h => h), by simp⟩
  clear hgs
  have JS : Hid (∀ W W', Below W.heap.size W W' → (fun W => Below w.heap.size w W) W → (fun W => Below w.heap.size w W) W') := fun W W' hb h => h.trans (hb.mono h.size)
  refine wpAny_inv4 (fun listed ac W => ∃ xv : Nat → Value, ac = ⟨#[Value.pointer (some { block := p, off := 0 }), Value.slice oa m oc, undef, undef, Value.slice none 0 0, xv 15, xv 16, xv 12, xv 0, xv 1, xv 2, xv 3, xv 4, xv 5, xv 6, xv 7, xv 8, xv 9, xv 10, xv 11, xv 13, xv 14, undef], []⟩ ∧ (fun W => Below w.heap.size w W) W ∧ Lst gs listed xv W) (by kernel_rfl) ?_ ?_ _ _ _ _ (by kernel_rfl) (of_decide_eq_true (by kernel_rfl)) (Down.start _) ⟨fun jx => undef, rfl, below0 _, Lst.start _ _ _ _⟩
  · rintro listed ac W ⟨xv, rfl, hb, hG⟩ hD i hi hnl hd
    have hin : i < 17 := hi
    clear hi
    have hcase : i = 0 ∨ i = 1 ∨ i = 2 ∨ i = 3 ∨ i = 4 ∨ i = 5 ∨ i = 6 ∨ i = 7 ∨ i = 8 ∨ i = 9 ∨ i = 10 ∨ i = 11 ∨ i = 12 ∨ i = 13 ∨ i = 14 ∨ i = 15 ∨ i = 16 := by omega
    rcases hcase with rfl | rfl | rfl | rfl | rfl | rfl | rfl | rfl | rfl | rfl | rfl | rfl | rfl | rfl | rfl | rfl | rfl
    · refine wpOp_step rfl (fun K' hK => ?_)
      clear hd hin hD
      go_simp
      exact hK _ _ ⟨updV xv 0 (Value.pointer (some { block := p, off := 0 })), by simp [updV], hb, hG.any gk.out g0.out _ rfl⟩
    · refine wpOp_step rfl (fun K' hK => ?_)
      simp [Region.binds] at hd
      have e0 : xv 0 = Value.pointer (some { block := p, off := 0 }) := hG.get g0.out (by simp [hd])
      clear hd hin hD
      go_simp
      exact hK _ _ ⟨updV xv 1 (Value.pointer (some { block := p, off := 0 })), by simp [updV, e0], hb, hG.any gk.out g1.out _ rfl⟩
    · refine wpOp_step rfl (fun K' hK => ?_)
      simp [Region.binds] at hd
      have e1 : xv 1 = Value.pointer (some { block := p, off := 0 }) := hG.get g1.out (by simp [hd])
      clear hd hin hD
      go_simp
      exact hK _ _ ⟨updV xv 2 (.pointer (some ⟨p, 2, none⟩)), by simp [updV, e1], hb, hG.any gk.out g2.out _ rfl⟩
    · refine wpOp_step rfl (fun K' hK => ?_)
      simp [Region.binds] at hd
      have e2 : xv 2 = .pointer (some ⟨p, 2, none⟩) := hG.get g2.out (by simp [hd])
      clear hd hin hD
      go_simp
      exact hK _ _ ⟨updV xv 3 (.pointer (some ⟨p, 3, none⟩)), by simp [updV, e2], hb, hG.any gk.out g3.out _ rfl⟩
    · refine wpOp_step rfl (fun K' hK => ?_)
      simp [Region.binds] at hd
      have e3 : xv 3 = .pointer (some ⟨p, 3, none⟩) := hG.get g3.out (by simp [hd])
      clear hd hin hD
      go_simp
      exact hK _ _ ⟨updV xv 4 (.pointer (some ⟨p, 4, none⟩)), by simp [updV, e3], hb, hG.any gk.out g4.out _ rfl⟩
    · refine wpOp_step rfl (fun K' hK => ?_)
      simp [Region.binds] at hd
      have e4 : xv 4 = .pointer (some ⟨p, 4, none⟩) := hG.get g4.out (by simp [hd])
      obtain ⟨c0, c1, c2, c3, c4, c5, c6, c7, c8, c9, c10⟩ := BX.out W hb
      clear hd hin hD
      go_simp
      exact hK _ _ ⟨updV xv 5 (.int .i64 (B : Int)), by simp [updV, e4], hb, hG.any gk.out g5.out _ rfl⟩
    · refine wpOp_step rfl (fun K' hK => ?_)
      clear hd hin hD
      go_simp
      exact hK _ _ ⟨updV xv 6 (Value.pointer (some { block := p, off := 0 })), by simp [updV], hb, hG.any gk.out g6.out _ rfl⟩
    · refine wpOp_step rfl (fun K' hK => ?_)
      simp [Region.binds] at hd
      have e6 : xv 6 = Value.pointer (some { block := p, off := 0 }) := hG.get g6.out (by simp [hd])
      clear hd hin hD
      go_simp
      exact hK _ _ ⟨updV xv 7 (Value.pointer (some { block := p, off := 0 })), by simp [updV, e6], hb, hG.any gk.out g7.out _ rfl⟩
    · refine wpOp_step rfl (fun K' hK => ?_)
      simp [Region.binds] at hd
      have e7 : xv 7 = Value.pointer (some { block := p, off := 0 }) := hG.get g7.out (by simp [hd])
      clear hd hin hD
      go_simp
      exact hK _ _ ⟨updV xv 8 (.pointer (some ⟨p, 10, none⟩)), by simp [updV, e7], hb, hG.any gk.out g8.out _ rfl⟩
    · refine wpOp_step rfl (fun K' hK => ?_)
      simp [Region.binds] at hd
      have e8 : xv 8 = .pointer (some ⟨p, 10, none⟩) := hG.get g8.out (by simp [hd])
      obtain ⟨c0, c1, c2, c3, c4, c5, c6, c7, c8, c9, c10⟩ := BX.out W hb
      clear hd hin hD
      go_simp
      exact hK _ _ ⟨updV xv 9 (.slice ca K cc), by simp [updV, e8], hb, hG.any gk.out g9.out _ rfl⟩
    · refine wpOp_step rfl (fun K' hK => ?_)
      clear hd hin hD
      go_simp
      exact hK _ _ ⟨updV xv 10 (Value.slice oa m oc), by simp [updV], hb, hG.any gk.out g10.out _ rfl⟩
    · refine wpOp_step rfl (fun K' hK => ?_)
      simp [Region.binds] at hd
      have e5 : xv 5 = .int .i64 (B : Int) := hG.get g5.out (by simp [hd])
      have e9 : xv 9 = .slice ca K cc := hG.get g9.out (by simp [hd])
      have e10 : xv 10 = Value.slice oa m oc := hG.get g10.out (by simp [hd])
      clear hd hin hD
      go_simp
      refine (CC.out W hb).mono ?_
      rintro e w' ⟨v, rfl, hv, hb'⟩
      go_wp2_with fail
      exact ⟨updV xv 11 v, by simp [updV, e5, e9, e10], JS.out _ _ hb' hb, hG.any gk.out g11.out v hv⟩
    · refine wpOp_step rfl (fun K' hK => ?_)
      simp [Region.binds] at hd
      have e11 : xv 11 = .tuple #[.slice none 0 0, .bool false] := hG.get g11.out (by simp [hd])
      clear hd hin hD
      go_simp
      exact hK _ _ ⟨updV xv 12 (.tuple #[.slice none 0 0, .bool false]), by simp [updV, e11], hb, hG.any gk.out g12.out _ rfl⟩
    · refine wpOp_step rfl (fun K' hK => ?_)
      simp [Region.binds] at hd
      have e12 : xv 12 = .tuple #[.slice none 0 0, .bool false] := hG.get g12.out (by simp [hd])
      clear hd hin hD
      go_simp
      exact hK _ _ ⟨updV xv 13 (.slice none 0 0), by simp [updV, e12], hb, hG.any gk.out g13.out _ rfl⟩
    · refine wpOp_step rfl (fun K' hK => ?_)
      simp [Region.binds] at hd
      have e12 : xv 12 = .tuple #[.slice none 0 0, .bool false] := hG.get g12.out (by simp [hd])
      clear hd hin hD
      go_simp
      exact hK _ _ ⟨updV xv 14 (.bool false), by simp [updV, e12], hb, hG.any gk.out g14.out _ rfl⟩
    · refine wpOp_step rfl (fun K' hK => ?_)
      simp [Region.binds] at hd
      have e13 : xv 13 = .slice none 0 0 := hG.get g13.out (by simp [hd])
      clear hd hin hD
      go_simp
      exact hK _ _ ⟨updV xv 15 (.slice none 0 0), by simp [updV, e13], hb, hG.any gk.out g15.out _ rfl⟩
    · refine wpOp_step rfl (fun K' hK => ?_)
      simp [Region.binds] at hd
      have e14 : xv 14 = .bool false := hG.get g14.out (by simp [hd])
      clear hd hin hD
      go_simp
      exact hK _ _ ⟨updV xv 16 (.bool false), by simp [updV, e14], hb, hG.any gk.out g16.out _ rfl⟩
  · rintro listed ac W ⟨xv, rfl, hb, hG⟩ hall
    have e15 : xv 15 = .slice none 0 0 := hG.get g15.out (hall 15 (by decide))
    have e16 : xv 16 = .bool false := hG.get g16.out (hall 16 (by decide))
    have XW : Hid ((fun W => Below w.heap.size w W) W) := hb
    clear hall hG hb gk JS g0 g1 g2 g3 g4 g5 g6 g7 g8 g9 g10 g11 g12 g13 g14 g15 g16
    rw [e15, e16]
    clear e15 e16
    have RR : Hid (Below w.heap.size w W) := XW.out
    clear XW BX CC
    go_wp2
    go_ret
    exact ⟨rfl, RR.out⟩

end Go.Proofs.YtkckbeekehecnaaGreat
