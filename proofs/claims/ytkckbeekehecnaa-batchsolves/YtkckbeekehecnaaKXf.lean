/-
  The document's Solve: what follows, its values, and whether they agree.
-/
import Derived.Test.YtkckbeekehecnaaKX
import Derived.RegionTactic
import Derived.Deep.Light
namespace Go.Proofs.Ytkckbeekehecnaa
open Go.RowKit
set_option linter.unusedVariables false

set_option maxRecDepth 100000 in
set_option maxHeartbeats 4000000 in
/-- The document's SOLVE. -/
theorem rsolve_full (n size : Nat) (pv uv : Value) (es : List Qe) (w : World) (hp : Sl 1 w pv es.length (es.map Qe.ov)) (hu : Sl 1 w uv es.length (es.map Qe.vv)) (hq : ∀ e ∈ es, QeP w e) (hsz : ∀ e ∈ es, e.va.length = size) (hm0 : es.length ≤ 100000) (hT : (es.map Qe.of).flatten.length ≤ 100000) (hn : n < 1000) (hs1 : size ≤ 1000) :
    Calls Try.prog 14 #[.int .i64 (n : Int), .int .i64 (size : Int), pv, uv] w fun e w' => ∃ (a : Option Addr) (k c g c' : Nat) (us : List Value) (K : List Int) (V : Int → List UInt8) (b : Bool), e = .returned (.tuple #[.slice a k c, .slice (some ⟨g, 0, none⟩) n c', .bool b]) ∧ OwnZ w.heap.size w' (.slice a k c) k K ∧ K.Pairwise (· < ·) ∧ (∀ x, x ∈ K ↔ Fol ((fitQ (n : Int) es).map Qe.of) x) ∧ w'.ownsRow w.heap.size 38 1 (.slice (some ⟨g, 0, none⟩) n c') n us ∧ VsP w' us K V size ∧ (∃ ss, SvI ((fitQ (n : Int) es).map pairQ) K V ss) ∧ (b = true ↔ AgQ size ((fitQ (n : Int) es).map pairQ)) ∧ Below w.heap.size w w' := by
  obtain ⟨ib, hib, hbz, hb1, hb2⟩ := infoBs_parts
  obtain ⟨m, hm⟩ : ∃ m, es.length = m := ⟨_, rfl⟩
  have HM : Hid (es.length = m) := hm
  have HQ : Hid (∀ e ∈ es, QeP w e) := hq
  have HSZ : Hid (∀ e ∈ es, e.va.length = size) := hsz
  have hp' := hp
  obtain ⟨-, ao, pc, rfl, hp2, hp3, -, -⟩ := hp'
  have hu' := hu
  obtain ⟨-, ua, uc, rfl, hu2, hu3, -, -⟩ := hu'
  unfold maxLen at hp3 hu3
  have HP : Hid (Sl 1 w (.slice ao m pc) (es.map Qe.ov).length (es.map Qe.ov)) := by
    unfold Hid
    rw [List.length_map]
    rw [hm] at hp ⊢
    exact hp
  have HU : Hid (Sl 1 w (.slice ua m uc) (es.map Qe.vv).length (es.map Qe.vv)) := by
    unfold Hid
    rw [List.length_map]
    rw [hm] at hu ⊢
    exact hu
  obtain ⟨fit, hfit⟩ : ∃ fit, fitQ (n : Int) es = fit := ⟨_, rfl⟩
  have HFIT : Hid (fitQ (n : Int) es = fit) := hfit
  have FM : Hid (∀ q ∈ fit, q ∈ es ∧ FitI n q.of) := fun q hq => by rw [← hfit] at hq; exact fitQ_mem.1 hq
  obtain ⟨T, hTT⟩ : ∃ T, (fit.map Qe.of).flatten.length = T := ⟨_, rfl⟩
  have HTT : Hid ((fit.map Qe.of).flatten.length = T) := hTT
  have hT5 : T ≤ 100000 := by rw [← hTT, ← hfit, fitQ_of]; exact Nat.le_trans (fitF_flat _ _) hT
  have LEN : Hid (∀ (i : Nat) (q : Qe), es[i]? = some q → q.of.length ≤ 100000) := fun i q h => Nat.le_trans (flat_le (by rw [List.getElem?_map, h]; rfl)) hT
  have NF : Hid (∀ l ∈ fit.map Qe.of, l.Nodup) := fun l hl => by
    obtain ⟨q, hq, rfl⟩ := List.mem_map.1 hl
    exact (FM.out q hq).2.nodup
  have HN3 : Hid (n < 1000) := hn
  have HS3 : Hid (size ≤ 1000) := hs1
  rw [hm] at hp2 hu2 hm0 ⊢
  rw [hfit]
  clear hm hq hsz hp hu hT hfit hTT
  go_enter Try.func14, Try.ntmps14
  go_wp2_with (at_make; refine wpList_make_full _ rfl _ _ 23 rfl w.heap.size 38 ib (.slice none 0 0) 1 Try.underlying23 hib hbz hb1 _ _ _ _ n rfl rfl rfl rfl (by rw [hb2]; omega) (by unfold maxLen; omega) (below_alloc _ _).size ?_; intro w1 ho1 hg1)
  have X1 : Hid (Below w.heap.size w w1) := below_on (below_alloc w (.cells #[] 3)) (below_fresh hg1)
  have K1 : Hid (OwnZ w.heap.size w1 (.slice (some ⟨w.heap.size, 0, none⟩) 0 0) 0 []) := (OwnZ.new w).below (below_fresh hg1)
  have OU1 : Hid (w1.ownsRow w.heap.size 38 1 (.slice (some ⟨w.heap.size + 1, 0, none⟩) n n) n (List.replicate n (.slice none 0 0))) := by
    have h1 := ho1
    simp only [Value.cells, Nat.mul_one, toList_madeCells_one] at h1
    have h2 : (w.alloc (.cells #[] 3)).heap.size = w.heap.size + 1 := by simp
    rw [h2] at h1
    exact h1
  have ON1 : Hid (∀ u ∈ List.replicate n (Value.slice none 0 0), u.oneCell' = true) := fun u hu => by rw [(List.mem_replicate.1 hu).2]; rfl
  clear ho1 hg1
  go_loopw [11, 12, 13] (fun kv ov mv wr => ∃ (K : List Int) (a : Option Addr) (k c g c' : Nat) (us : List Value) (V : Int → List UInt8) (ss : List (EqP × Int)) (mb : Bool), kv = .slice a k c ∧ ov = .slice (some ⟨g, 0, none⟩) n c' ∧ mv = .bool mb ∧ k ≤ T ∧ Hid (OwnZ w.heap.size wr (.slice a k c) k K) ∧ Hid (K.Pairwise (· < ·)) ∧ Hid (∀ x ∈ K, Fol (fit.map Qe.of) x) ∧ Hid (SvI (fit.map pairQ) K V ss) ∧ Hid (wr.ownsRow w.heap.size 38 1 (.slice (some ⟨g, 0, none⟩) n c') n us) ∧ Hid (VsP wr us K V size) ∧ Hid (∀ u ∈ us, u.oneCell' = true) ∧ Hid (mb = false → Done (fit.map Qe.of) K) ∧ Hid (Below w.heap.size w wr)) (fun kv _ mv _ => 2 * (T - lenS kv) + oneV mv)
  case atStart => exact ⟨[], _, 0, _, _, _, _, fun _ => [], [], true, rfl, rfl, rfl, by omega, K1, List.Pairwise.nil, (by intro x hx; cases hx), SvI.nil _, OU1, (by intro b hb; cases hb), ON1, (by intro h; cases h), X1⟩
  case round =>
    clear K1 OU1 ON1 X1
    obtain ⟨K, a, k, c, g, c', us, V, ss, mb, rfl, rfl, rfl, hkT, OZ, PP, FF, SI, OU, VV, ON, DD, XX⟩ := hrel
    cases mb with
    | false =>
      have D0 : Hid (Done (fit.map Qe.of) K) := DD.out rfl
      clear DD
      have AG : Hid ((∀ q ∈ fit, leftZ K q.of = [] → zeroB (xorAll q.va (q.of.map V)) = true) ↔ AgQ size (fit.map pairQ)) := by
        have hn' : ∀ p ∈ fit.map pairQ, p.2.length = size := fun p hp => by obtain ⟨q, hq, rfl⟩ := List.mem_map.1 hp; exact HSZ.out q (FM.out q hq).1
        have h1 := agree_slv hn' SI.out.slv (fun x hx => (SI.out.mem x).1 (done_fol NF.out D0.out (fol_pairs hx)))
        unfold Hid
        rw [← h1]
        have hcl : ∀ q : Qe, leftZ K q.of = [] ↔ ∀ b ∈ (pairQ q).1, b ∈ ss.map Prod.snd := fun q => by
          rw [List.eq_nil_iff_forall_not_mem]
          constructor
          · intro h b hb
            by_cases hk : b ∈ K
            · exact (SI.out.mem b).1 hk
            · exact absurd (leftZ_mem.2 ⟨hb, hk⟩) (h b)
          · intro h b hb
            obtain ⟨h1, h2⟩ := leftZ_mem.1 hb
            exact h2 ((SI.out.mem b).2 (h b h1))
        constructor
        · intro hA p hp hc
          obtain ⟨q, hq, rfl⟩ := List.mem_map.1 hp
          exact hA q hq ((hcl q).2 hc)
        · intro hA q hq hc
          exact hA (pairQ q) (List.mem_map.2 ⟨q, hq, rfl⟩) ((hcl q).1 hc)
      have USL : Hid (us.length = n) := by have := (owned_slN OU.out).1; rw [Nat.mul_one] at this; exact this
      have KF : Hid (∀ x, x ∈ K ↔ Fol (fit.map Qe.of) x) := fun x => ⟨FF.out x, fun hx => done_fol NF.out D0.out hx⟩
      have SE : Hid (∃ ss, SvI (fit.map pairQ) K V ss) := ⟨ss, SI.out⟩
      clear FF SI ON D0
      go_wp2
      go_loopw [16, 17] (fun fv iv wr => ∃ (i : Nat) (fb : Bool), i ≤ m ∧ iv = .int .i64 i ∧ fv = .bool fb ∧ Hid (FlagP fb (AllZ K V (fitQ (n : Int) (es.take i)))) ∧ Hid (OwnZ w.heap.size wr (.slice a k c) k K) ∧ Hid (wr.ownsRow w.heap.size 38 1 (.slice (some ⟨g, 0, none⟩) n c') n us) ∧ Hid (VsP wr us K V size) ∧ Hid (Below w.heap.size w wr)) (fun _ iv _ => m - (intOf iv).toNat)
      case atStart => exact ⟨0, true, by omega, rfl, rfl, flag_start K V, OZ, OU, VV, XX⟩
      case round =>
        clear OZ OU VV XX
        obtain ⟨i, fb, hi, rfl, rfl, FB, OZ, OU, VV, XX⟩ := hrel
        by_cases hlt : i < m
        · obtain ⟨q, hq⟩ : ∃ q, es[i]? = some q := ⟨_, List.getElem?_eq_getElem (by rw [HM.out]; exact hlt)⟩
          have NX : Hid (fitQ (n : Int) (es.take (i + 1)) = fitQ (n : Int) (es.take i) ++ (if fitsI (n : Int) q.of = true then [q] else [])) := fitQ_next hq
          have hqp := HQ.out q (List.mem_of_getElem? hq)
          have hqs := HSZ.out q (List.mem_of_getElem? hq)
          have LL : Hid (q.of.length ≤ 100000) := LEN.out i q hq
          have ho' : (es.map Qe.ov)[i]? = some q.ov := by rw [List.getElem?_map, hq]; rfl
          have hv' : (es.map Qe.vv)[i]? = some q.vv := by rw [List.getElem?_map, hq]; rfl
          obtain ⟨ov, vv, of, va⟩ := q
          obtain ⟨la, lc, eo, hl2, hl3⟩ := zs_shape hqp.1
          have eo' : ov = .slice la of.length lc := eo
          subst eo'
          obtain ⟨ba, bc, ev, hb2', hb3'⟩ := bs_shape hqp.2
          have ev' : vv = .slice ba va.length bc := ev
          subst ev'
          have HO' : Hid ((es.map Qe.ov)[i]? = some (.slice la of.length lc)) := ho'
          have HV' : Hid ((es.map Qe.vv)[i]? = some (.slice ba va.length bc)) := hv'
          have HQP : Hid (QeP w ⟨.slice la of.length lc, .slice ba va.length bc, of, va⟩) := hqp
          have HQS : Hid (va.length = size) := hqs
          obtain ⟨b0, off, rfl, ci⟩ := sl_at HP.out XX.out HO'.out
          obtain ⟨b1, off1, rfl, cv⟩ := sl_at HU.out XX.out HV'.out
          have CO : Hid (∀ W, Below w.heap.size w W → W.cell? ⟨b0, off + i, none⟩ = some (.slice la of.length lc)) := fun W hW => by
            obtain ⟨b0', off', e1, e2⟩ := sl_at HP.out hW HO'.out
            injection e1 with e1
            injection e1 with e1 e3 _
            subst e1
            subst e3
            exact e2
          have CV : Hid (∀ W, Below w.heap.size w W → W.cell? ⟨b1, off1 + i, none⟩ = some (.slice ba va.length bc)) := fun W hW => by
            obtain ⟨b1', off1', e1, e2⟩ := sl_at HU.out hW HV'.out
            injection e1 with e1
            injection e1 with e1 e3 _
            subst e1
            subst e3
            exact e2
          clear hq hqp hqs ho' hv' eo ev hl2 hl3 hb2' hb3' cv
          go_wp2_with fail
          refine (rfits16_any _ _ of wr (HQP.out.1.below XX.out)).mono ?_
          rintro e w3 ⟨⟨b, rfl, hb⟩, hb3⟩
          have X3 : Hid (Below w.heap.size w w3) := XX.out.trans (hb3.mono XX.out.size)
          have O3 : Hid (OwnZ w.heap.size w3 (.slice a k c) k K) := OZ.out.below hb3
          have OU3 : Hid (w3.ownsRow w.heap.size 38 1 (.slice (some ⟨g, 0, none⟩) n c') n us) := owns_kept OU.out fun q hq => hb3.block q (World.ownsRow.lt OU.out q hq).2
          have VV3 : Hid (VsP w3 us K V size) := VV.out.below hb3
          clear hb3 OZ OU VV XX ci
          by_cases hf : FitI (n : Int) of
          · have hbt : b = true := hb.2 hf
            subst hbt
            have NY : Hid (fitQ (n : Int) (es.take (i + 1)) = fitQ (n : Int) (es.take i) ++ [⟨.slice la of.length lc, .slice ba va.length bc, of, va⟩]) := by
              have h1 := NX.out
              rw [if_pos (fitsI_iff.2 hf)] at h1
              exact h1
            have ci3 := CO.out w3 X3.out
            clear hb NX hf
            go_wp2_with fail
            refine (rleft_any _ _ K of w3 O3.out.zs (HQP.out.1.below X3.out) (by have := LL.out; exact Nat.le_trans this (by omega))).mono ?_
            rintro e w4 ⟨a3, m3, c3, rfl, ho4, hb4⟩
            have X4 : Hid (Below w.heap.size w w4) := X3.out.trans (hb4.mono X3.out.size)
            have O4 : Hid (OwnZ w.heap.size w4 (.slice a k c) k K) := O3.out.below hb4
            have OU4 : Hid (w4.ownsRow w.heap.size 38 1 (.slice (some ⟨g, 0, none⟩) n c') n us) := owns_kept OU3.out fun q hq => hb4.block q (World.ownsRow.lt OU3.out q hq).2
            have VV4 : Hid (VsP w4 us K V size) := VV3.out.below hb4
            have ML : Hid ((leftZ K of).length = m3) := ho4.len
            obtain ⟨a3', c3', e3, hc31, hc32, -⟩ := owned_slice ho4
            injection e3 with e31 _ e33
            subst e31
            subst e33
            unfold maxLen at hc32
            clear ho4 hb4 O3 OU3 VV3 X3 ci3
            by_cases h0 : m3 = 0
            · subst h0
              have HL0 : Hid (leftZ K of = []) := List.eq_nil_of_length_eq_zero ML.out
              obtain ⟨X, hX⟩ : ∃ X, xorAll va (of.map V) = X := ⟨_, rfl⟩
              have HX : Hid (xorAll va (of.map V) = X) := hX
              obtain ⟨zz, hzz⟩ : ∃ zz, zeroB X = zz := ⟨_, rfl⟩
              have HZZ : Hid (zeroB X = zz) := hzz
              have FN : Hid (FlagP (fb && zz) (AllZ K V (fitQ (n : Int) (es.take (i + 1))))) := by
                have FB' : fb = true ↔ AllZ K V (fitQ (n : Int) (es.take i)) := FB.out
                unfold Hid FlagP
                rw [NY.out, Bool.and_eq_true, FB']
                constructor
                · rintro ⟨h1, h2⟩ q hq hc
                  rcases List.mem_append.1 hq with h | h
                  · exact h1 q h hc
                  · rw [List.mem_singleton.1 h]
                    show zeroB (xorAll va (of.map V)) = true
                    rw [HX.out, HZZ.out]
                    exact h2
                · intro h
                  refine ⟨fun q hq => h q (List.mem_append_left _ hq), ?_⟩
                  have h1 := h _ (List.mem_append_right _ (List.mem_singleton.2 rfl)) HL0.out
                  have h2 : zeroB (xorAll va (of.map V)) = true := h1
                  rwa [HX.out, HZZ.out] at h2
              have CO4 : Hid (∀ W, Below w4.heap.size w4 W → W.cell? ⟨b0, off + i, none⟩ = some (.slice la of.length lc)) := fun W hW => CO.out W (on_below X4.out hW)
              have CV4 : Hid (∀ W, Below w4.heap.size w4 W → W.cell? ⟨b1, off1 + i, none⟩ = some (.slice ba va.length bc)) := fun W hW => CV.out W (on_below X4.out hW)
              cases fb with
              | false =>
                clear hX hzz
                go_upto_region 19 with fail
                go_quiet (fail)
                have B9 : Below w4.heap.size w4 (w4.drewN nq) := below_drewN (Below.refl _ _) nq
                have X9 : Hid (Below w.heap.size w (w4.drewN nq)) := on_below X4.out B9
                have O9 : Hid (OwnZ w.heap.size (w4.drewN nq) (.slice a k c) k K) := O4.out.below B9
                have OU9 : Hid ((w4.drewN nq).ownsRow w.heap.size 38 1 (.slice (some ⟨g, 0, none⟩) n c') n us) := owns_kept OU4.out fun q hq => B9.block q (World.ownsRow.lt OU4.out q hq).2
                have VV9 : Hid (VsP (w4.drewN nq) us K V size) := VV4.out.below B9
                go_wp2
                go_roundw
                case rel => exact ⟨i + 1, false, by omega, by go_num, rfl, flag_no FN.out, O9, OU9, VV9, X9⟩
                case measure => simp [intOf]; omega
              | true =>
                have RC : Hid (∀ W, Below w4.heap.size w4 W → Calls Try.prog 39 #[.slice a k c, .slice la of.length lc, .slice ba va.length bc, .slice (some ⟨g, 0, none⟩) n c'] W fun e w' => ∃ v, e = .returned v ∧ IsRestB w4.heap.size size X v w' ∧ Below W.heap.size W w') := fun W hW => by
                  have h2 : Sl 1 W (.slice (some ⟨g, 0, none⟩) n c') us.length us := by
                    have h3 := (owned_slN OU4.out).below hW
                    rw [USL.out]
                    exact h3
                  refine (rrest16_any _ _ _ _ K of va us V size W (O4.out.zs.below hW) (HQP.out.1.below (on_below X4.out hW)) (HQP.out.2.below (on_below X4.out hW)) h2 (VV4.out.below hW) HQS.out (by have := HS3.out; omega) (by have := LL.out; exact Nat.le_trans this (by omega))).mono ?_
                  rintro e w' ⟨q, h4, h5, h6, h7⟩
                  rw [knZ_all HL0.out, HX.out] at h5
                  exact ⟨_, h4, ⟨q, rfl, h5, Nat.le_trans hW.size h6⟩, h7⟩
                have RZ : Hid (∀ W v, Below w4.heap.size w4 W → IsRestB w4.heap.size size X v W → Calls Try.prog 41 #[v] W fun e w' => ∃ v, e = .returned v ∧ IsV (.bool zz) v w' ∧ Below W.heap.size W w') := fun W v hW hv => by
                  obtain ⟨q, rfl, h5, h6⟩ := hv
                  refine (rzero_any _ X W h5).mono ?_
                  rintro e w' ⟨h7, rfl⟩
                  rw [HZZ.out] at h7
                  exact ⟨_, h7, rfl, Below.refl _ _⟩
                clear hX hzz
                go_upto_region 19 with fail
                refine wp_region_any (by kernel_rfl) ?_
                obtain ⟨gs, hgs⟩ : ∃ gs : List (Value → World → Prop), gs = [IsV (Value.bool true), IsV (Value.bool true), IsV (Value.slice a k c), IsV (Value.slice (some { block := b0, off := off }) m pc), IsV (Value.int IntKind.i64 ↑i), IsV (.pointer (some ⟨b0, off + i, none⟩)), IsV (.slice la of.length lc), IsV (Value.slice (some { block := b1, off := off1 }) m uc), IsV (Value.int IntKind.i64 ↑i), IsV (.pointer (some ⟨b1, off1 + i, none⟩)), IsV (.slice ba va.length bc), IsV (Value.slice (some { block := g, off := 0 }) n c'), IsAnyV, IsV (.bool zz), IsV (.bool zz), IsV (.bool zz)] := ⟨_, rfl⟩
                have g0 : Hid (gs[0]? = some (IsV (Value.bool true))) := by unfold Hid; rw [hgs]; rfl
                have g1 : Hid (gs[1]? = some (IsV (Value.bool true))) := by unfold Hid; rw [hgs]; rfl
                have g2 : Hid (gs[2]? = some (IsV (Value.slice a k c))) := by unfold Hid; rw [hgs]; rfl
                have g3 : Hid (gs[3]? = some (IsV (Value.slice (some { block := b0, off := off }) m pc))) := by unfold Hid; rw [hgs]; rfl
                have g4 : Hid (gs[4]? = some (IsV (Value.int IntKind.i64 ↑i))) := by unfold Hid; rw [hgs]; rfl
                have g5 : Hid (gs[5]? = some (IsV (.pointer (some ⟨b0, off + i, none⟩)))) := by unfold Hid; rw [hgs]; rfl
                have g6 : Hid (gs[6]? = some (IsV (.slice la of.length lc))) := by unfold Hid; rw [hgs]; rfl
                have g7 : Hid (gs[7]? = some (IsV (Value.slice (some { block := b1, off := off1 }) m uc))) := by unfold Hid; rw [hgs]; rfl
                have g8 : Hid (gs[8]? = some (IsV (Value.int IntKind.i64 ↑i))) := by unfold Hid; rw [hgs]; rfl
                have g9 : Hid (gs[9]? = some (IsV (.pointer (some ⟨b1, off1 + i, none⟩)))) := by unfold Hid; rw [hgs]; rfl
                have g10 : Hid (gs[10]? = some (IsV (.slice ba va.length bc))) := by unfold Hid; rw [hgs]; rfl
                have g11 : Hid (gs[11]? = some (IsV (Value.slice (some { block := g, off := 0 }) n c'))) := by unfold Hid; rw [hgs]; rfl
                have g12 : Hid (gs[12]? = some (IsAnyV)) := by unfold Hid; rw [hgs]; rfl
                have g13 : Hid (gs[13]? = some (IsV (.bool zz))) := by unfold Hid; rw [hgs]; rfl
                have g14 : Hid (gs[14]? = some (IsV (.bool zz))) := by unfold Hid; rw [hgs]; rfl
                have g15 : Hid (gs[15]? = some (IsV (.bool zz))) := by unfold Hid; rw [hgs]; rfl
                have gk : Hid (∀ p ∈ gs, ∀ v (U U' : World), p v U → p v U') := by
                  unfold Hid
                  rw [hgs]
                  simp only [List.forall_mem_cons]
                  exact ⟨(fun _ _ _ h => h), (fun _ _ _ h => h), (fun _ _ _ h => h), (fun _ _ _ h => h), (fun _ _ _ h => h), (fun _ _ _ h => h), (fun _ _ _ h => h), (fun _ _ _ h => h), (fun _ _ _ h => h), (fun _ _ _ h => h), (fun _ _ _ h => h), (fun _ _ _ h => h), (fun _ _ _ h => h), (fun _ _ _ h => h), (fun _ _ _ h => h), (fun _ _ _ h => h), by simp⟩
                clear hgs
                have JS : Hid (∀ W8 W8', Below W8.heap.size W8 W8' → (fun W8 => Below w4.heap.size w4 W8) W8 → (fun W8 => Below w4.heap.size w4 W8) W8') := fun W8 W8' hb h => h.trans (hb.mono h.size)
                have st12 : Hid (Stays (IsRestB w4.heap.size size X)) := stays_restb _ _ _
                refine wpAny_inv4 (fun listed ac W8 => ∃ xv8 : Nat → Value, ac = ⟨#[Value.int IntKind.i64 ↑n, Value.int IntKind.i64 ↑size, Value.slice (some { block := b0, off := off }) m pc, Value.slice (some { block := b1, off := off1 }) m uc, undef, undef, undef, undef, Value.slice none 0 0, Value.slice none 0 0, Value.bool false, Value.slice a k c, Value.slice (some { block := g, off := 0 }) n c', Value.bool false, u14, u15, xv8 15, Value.int IntKind.i64 ↑i, Value.slice (some { block := w.heap.size, off := 0 }) 0 0, Value.int IntKind.i64 ↑n, Value.slice (some { block := w.heap.size + 1, off := 0 }) n n, Value.bool false, u22, u23, u24, u25, u26, u27, u28, u29, u30, u31, u32, u33, u34, u35, u36, u37, u38, u39, u40, u41, u42, u43, u44, u45, u46, u47, u48, u49, u50, u51, u52, u53, u54, u55, u56, u57, u58, u59, u60, u61, u62, u63, u64, u65, Value.int IntKind.i64 ↑i, Value.slice (some { block := b0, off := off }) m pc, Value.int IntKind.i64 ↑m, Value.bool true, u70, u71, Value.int IntKind.i64 ↑n, Value.slice (some { block := b0, off := off }) m pc, Value.int IntKind.i64 ↑i, Value.pointer (some { block := b0, off := off + i }), Value.slice la of.length lc, Value.bool true, Value.bool true, Value.slice a k c, Value.slice (some { block := b0, off := off }) m pc, Value.int IntKind.i64 ↑i, Value.pointer (some { block := b0, off := off + i }), Value.slice la of.length lc, Value.slice a3 0 c3, Value.int IntKind.i64 (0 : Int), Value.bool true, Value.bool true, xv8 0, xv8 1, xv8 2, xv8 3, xv8 4, xv8 5, xv8 6, xv8 7, xv8 8, xv8 9, xv8 10, xv8 11, xv8 12, xv8 13, xv8 14, undef, undef, undef], []⟩ ∧ (fun W8 => Below w4.heap.size w4 W8) W8 ∧ Lst gs listed xv8 W8 ∧ Fe listed xv8 W8 12 (IsRestB w4.heap.size size X) ∧ Ini4 listed xv8 15 (Value.bool true)) (by kernel_rfl) ?_ ?_ _ _ _ _ (by kernel_rfl) (of_decide_eq_true (by kernel_rfl)) (Down.start _) ⟨fun jx => if jx = 0 then u88 else if jx = 1 then u89 else if jx = 2 then u90 else if jx = 3 then u91 else if jx = 4 then u92 else if jx = 5 then u93 else if jx = 6 then u94 else if jx = 7 then u95 else if jx = 8 then u96 else if jx = 9 then u97 else if jx = 10 then u98 else if jx = 11 then u99 else if jx = 12 then u100 else if jx = 13 then u101 else if jx = 14 then u102 else if jx = 15 then Value.bool true else undef, rfl, below0 _, Lst.start _ _ _ _, Fe.start _ _ _ _ _, (fun _ => rfl)⟩
                · go_light
                  rintro listed ac W8 ⟨xv8, rfl, hb, hG, hF12, hI15⟩ hD i hi hnl hd
                  have hin : i < 16 := hi
                  clear hi
                  have hcase : i = 0 ∨ i = 1 ∨ i = 2 ∨ i = 3 ∨ i = 4 ∨ i = 5 ∨ i = 6 ∨ i = 7 ∨ i = 8 ∨ i = 9 ∨ i = 10 ∨ i = 11 ∨ i = 12 ∨ i = 13 ∨ i = 14 ∨ i = 15 := by omega
                  rcases hcase with rfl | rfl | rfl | rfl | rfl | rfl | rfl | rfl | rfl | rfl | rfl | rfl | rfl | rfl | rfl | rfl
                  · refine wpOp_step rfl (fun K' hK => ?_)
                    have f15 : listed.getD 15 false = false := by
                      cases hx : listed.getD 15 false with
                      | false => rfl
                      | true =>
                        have r0 : listed.getD 0 false = true := by have h := hD 15 (by decide) hx; simp [Region.binds] at h; simp [h]
                        rw [getD_false hnl] at r0; cases r0
                    have ei15 : xv8 15 = Value.bool true := hI15 f15
                    clear hd hin hD
                    go_simp
                    exact hK _ _ ⟨updV xv8 0 (Value.bool true), by simp [updV, ei15], hb, hG.any gk.out g0.out _ rfl, hF12.step (fun _ h => h) (by decide) _, hI15.skip (by decide)⟩
                  · refine wpOp_step rfl (fun K' hK => ?_)
                    simp [Region.binds] at hd
                    have e0 : xv8 0 = Value.bool true := hG.get g0.out (by simp [hd])
                    clear hd hin hD
                    go_simp
                    exact hK _ _ ⟨updV xv8 1 (Value.bool true), by simp [updV, e0], hb, hG.any gk.out g1.out _ rfl, hF12.step (fun _ h => h) (by decide) _, hI15.skip (by decide)⟩
                  · refine wpOp_step rfl (fun K' hK => ?_)
                    simp [Region.binds] at hd
                    have e1 : xv8 1 = Value.bool true := hG.get g1.out (by simp [hd])
                    clear hd hin hD
                    go_simp
                    exact hK _ _ ⟨updV xv8 2 (Value.slice a k c), by simp [updV, e1], hb, hG.any gk.out g2.out _ rfl, hF12.step (fun _ h => h) (by decide) _, hI15.skip (by decide)⟩
                  · refine wpOp_step rfl (fun K' hK => ?_)
                    simp [Region.binds] at hd
                    have e1 : xv8 1 = Value.bool true := hG.get g1.out (by simp [hd])
                    clear hd hin hD
                    go_simp
                    exact hK _ _ ⟨updV xv8 3 (Value.slice (some { block := b0, off := off }) m pc), by simp [updV, e1], hb, hG.any gk.out g3.out _ rfl, hF12.step (fun _ h => h) (by decide) _, hI15.skip (by decide)⟩
                  · refine wpOp_step rfl (fun K' hK => ?_)
                    simp [Region.binds] at hd
                    have e1 : xv8 1 = Value.bool true := hG.get g1.out (by simp [hd])
                    clear hd hin hD
                    go_simp
                    exact hK _ _ ⟨updV xv8 4 (Value.int IntKind.i64 ↑i), by simp [updV, e1], hb, hG.any gk.out g4.out _ rfl, hF12.step (fun _ h => h) (by decide) _, hI15.skip (by decide)⟩
                  · refine wpOp_step rfl (fun K' hK => ?_)
                    simp [Region.binds] at hd
                    have e3 : xv8 3 = Value.slice (some { block := b0, off := off }) m pc := hG.get g3.out (by simp [hd])
                    have e4 : xv8 4 = Value.int IntKind.i64 ↑i := hG.get g4.out (by simp [hd])
                    have e1 : xv8 1 = Value.bool true := hG.get g1.out (by simp [hd])
                    clear hd hin hD
                    go_simp
                    exact hK _ _ ⟨updV xv8 5 (.pointer (some ⟨b0, off + i, none⟩)), by simp [updV, e3, e4, e1], hb, hG.any gk.out g5.out _ rfl, hF12.step (fun _ h => h) (by decide) _, hI15.skip (by decide)⟩
                  · refine wpOp_step rfl (fun K' hK => ?_)
                    simp [Region.binds] at hd
                    have e5 : xv8 5 = .pointer (some ⟨b0, off + i, none⟩) := hG.get g5.out (by simp [hd])
                    have e1 : xv8 1 = Value.bool true := hG.get g1.out (by simp [hd])
                    have cz := CO4.out W8 hb
                    clear hd hin hD
                    go_simp
                    exact hK _ _ ⟨updV xv8 6 (.slice la of.length lc), by simp [updV, e5, e1], hb, hG.any gk.out g6.out _ rfl, hF12.step (fun _ h => h) (by decide) _, hI15.skip (by decide)⟩
                  · refine wpOp_step rfl (fun K' hK => ?_)
                    simp [Region.binds] at hd
                    have e1 : xv8 1 = Value.bool true := hG.get g1.out (by simp [hd])
                    clear hd hin hD
                    go_simp
                    exact hK _ _ ⟨updV xv8 7 (Value.slice (some { block := b1, off := off1 }) m uc), by simp [updV, e1], hb, hG.any gk.out g7.out _ rfl, hF12.step (fun _ h => h) (by decide) _, hI15.skip (by decide)⟩
                  · refine wpOp_step rfl (fun K' hK => ?_)
                    simp [Region.binds] at hd
                    have e1 : xv8 1 = Value.bool true := hG.get g1.out (by simp [hd])
                    clear hd hin hD
                    go_simp
                    exact hK _ _ ⟨updV xv8 8 (Value.int IntKind.i64 ↑i), by simp [updV, e1], hb, hG.any gk.out g8.out _ rfl, hF12.step (fun _ h => h) (by decide) _, hI15.skip (by decide)⟩
                  · refine wpOp_step rfl (fun K' hK => ?_)
                    simp [Region.binds] at hd
                    have e7 : xv8 7 = Value.slice (some { block := b1, off := off1 }) m uc := hG.get g7.out (by simp [hd])
                    have e8 : xv8 8 = Value.int IntKind.i64 ↑i := hG.get g8.out (by simp [hd])
                    have e1 : xv8 1 = Value.bool true := hG.get g1.out (by simp [hd])
                    clear hd hin hD
                    go_simp
                    exact hK _ _ ⟨updV xv8 9 (.pointer (some ⟨b1, off1 + i, none⟩)), by simp [updV, e7, e8, e1], hb, hG.any gk.out g9.out _ rfl, hF12.step (fun _ h => h) (by decide) _, hI15.skip (by decide)⟩
                  · refine wpOp_step rfl (fun K' hK => ?_)
                    simp [Region.binds] at hd
                    have e9 : xv8 9 = .pointer (some ⟨b1, off1 + i, none⟩) := hG.get g9.out (by simp [hd])
                    have e1 : xv8 1 = Value.bool true := hG.get g1.out (by simp [hd])
                    have cz := CV4.out W8 hb
                    clear hd hin hD
                    go_simp
                    exact hK _ _ ⟨updV xv8 10 (.slice ba va.length bc), by simp [updV, e9, e1], hb, hG.any gk.out g10.out _ rfl, hF12.step (fun _ h => h) (by decide) _, hI15.skip (by decide)⟩
                  · refine wpOp_step rfl (fun K' hK => ?_)
                    simp [Region.binds] at hd
                    have e1 : xv8 1 = Value.bool true := hG.get g1.out (by simp [hd])
                    clear hd hin hD
                    go_simp
                    exact hK _ _ ⟨updV xv8 11 (Value.slice (some { block := g, off := 0 }) n c'), by simp [updV, e1], hb, hG.any gk.out g11.out _ rfl, hF12.step (fun _ h => h) (by decide) _, hI15.skip (by decide)⟩
                  · refine wpOp_step rfl (fun K' hK => ?_)
                    simp [Region.binds] at hd
                    have e2 : xv8 2 = Value.slice a k c := hG.get g2.out (by simp [hd])
                    have e6 : xv8 6 = .slice la of.length lc := hG.get g6.out (by simp [hd])
                    have e10 : xv8 10 = .slice ba va.length bc := hG.get g10.out (by simp [hd])
                    have e11 : xv8 11 = Value.slice (some { block := g, off := 0 }) n c' := hG.get g11.out (by simp [hd])
                    have e1 : xv8 1 = Value.bool true := hG.get g1.out (by simp [hd])
                    clear hd hin hD
                    go_simp
                    refine (RC.out W8 hb).mono ?_
                    rintro e w' ⟨v, rfl, hv, hb'⟩
                    go_wp2_with fail
                    exact ⟨updV xv8 12 v, by simp [updV, e2, e6, e10, e11, e1], JS.out _ _ hb' hb, hG.any gk.out g12.out v trivial, Fe.new (hv), hI15.skip (by decide)⟩
                  · refine wpOp_step rfl (fun K' hK => ?_)
                    simp [Region.binds] at hd
                    have l12 : listed.getD 12 false = true := by simp [hd]
                    have m12 := hF12 l12
                    have e1 : xv8 1 = Value.bool true := hG.get g1.out (by simp [hd])
                    clear hd hin hD
                    go_simp
                    refine (RZ.out W8 _ hb m12).mono ?_
                    rintro e w' ⟨v, rfl, hv, hb'⟩
                    go_wp2_with fail
                    exact ⟨updV xv8 13 v, by simp [updV, e1], JS.out _ _ hb' hb, hG.any gk.out g13.out v hv, hF12.on st12.out hb' (by decide) _, hI15.skip (by decide)⟩
                  · refine wpOp_step rfl (fun K' hK => ?_)
                    simp [Region.binds] at hd
                    have e1 : xv8 1 = Value.bool true := hG.get g1.out (by simp [hd])
                    have e13 : xv8 13 = .bool zz := hG.get g13.out (by simp [hd])
                    clear hd hin hD
                    go_simp
                    exact hK _ _ ⟨updV xv8 14 (.bool zz), by simp [updV, e1, e13], hb, hG.any gk.out g14.out _ rfl, hF12.step (fun _ h => h) (by decide) _, hI15.skip (by decide)⟩
                  · refine wpOp_step rfl (fun K' hK => ?_)
                    simp [Region.binds] at hd
                    have e14 : xv8 14 = .bool zz := hG.get g14.out (by simp [hd])
                    clear hd hin hD
                    go_simp
                    exact hK _ _ ⟨updV xv8 15 (.bool zz), by simp [updV, e14], hb, hG.any gk.out g15.out _ rfl, hF12.step (fun _ h => h) (by decide) _, Ini4.done hnl⟩
                · rintro listed ac W8 ⟨xv8, rfl, hb, hG, hF12, hI15⟩ hall
                  have e15 : xv8 15 = .bool zz := hG.get g15.out (hall 15 (by decide))
                  have XW : Hid ((fun W8 => Below w4.heap.size w4 W8) W8) := hb
                  clear hall hG hb gk JS g0 g1 g2 g3 g4 g5 g6 g7 g8 g9 g10 g11 g12 g13 g14 g15 hF12 st12 hI15
                  rw [e15]
                  clear e15
                  obtain ⟨w9, hw9⟩ : ∃ x, x = W8 := ⟨_, rfl⟩
                  subst hw9
                  have X9 : Hid (Below w.heap.size w w9) := on_below X4.out XW.out
                  have O9 : Hid (OwnZ w.heap.size w9 (.slice a k c) k K) := O4.out.below XW.out
                  have OU9 : Hid (w9.ownsRow w.heap.size 38 1 (.slice (some ⟨g, 0, none⟩) n c') n us) := owns_kept OU4.out fun q hq => XW.out.block q (World.ownsRow.lt OU4.out q hq).2
                  have VV9 : Hid (VsP w9 us K V size) := VV4.out.below XW.out
                  go_wp2
                  go_roundw
                  case rel => exact ⟨i + 1, zz, by omega, by go_num, rfl, flag_yes FN.out, O9, OU9, VV9, X9⟩
                  case measure => simp [intOf]; omega
            · have d : decide ((m3 : Int) = 0) = false := decide_eq_false (by omega)
              have FN : Hid (FlagP fb (AllZ K V (fitQ (n : Int) (es.take (i + 1))))) := by
                have FB' : fb = true ↔ AllZ K V (fitQ (n : Int) (es.take i)) := FB.out
                unfold Hid FlagP
                rw [NY.out, FB']
                constructor
                · intro h1 q hq hc
                  rcases List.mem_append.1 hq with h | h
                  · exact h1 q h hc
                  · rw [List.mem_singleton.1 h] at hc
                    have hc' : leftZ K of = [] := hc
                    have := ML.out
                    rw [hc'] at this
                    exact absurd this.symm h0
                · intro h q hq
                  exact h q (List.mem_append_left _ hq)
              go_wp2
              go_roundw
              case rel => exact ⟨i + 1, fb, by omega, by go_num, rfl, FN, O4, OU4, VV4, X4⟩
              case measure => simp [intOf]; omega
          · have hbf : b = false := by cases b with
              | false => rfl
              | true => exact absurd (hb.1 rfl) hf
            subst hbf
            have FN : Hid (FlagP fb (AllZ K V (fitQ (n : Int) (es.take (i + 1))))) := by
              unfold Hid
              rw [NX.out, if_neg (fun h => hf (fitsI_iff.1 h)), List.append_nil]
              exact FB.out
            clear hb NX hf
            go_wp2
            go_roundw
            case rel => exact ⟨i + 1, fb, by omega, by go_num, rfl, FN, O3, OU3, VV3, X3⟩
            case measure => simp [intOf]; omega
        · obtain rfl : m = i := by omega
          have R : Hid (fb = true ↔ AgQ size (fit.map pairQ)) := by
            have h1 : FlagP fb (AllZ K V (fitQ (n : Int) (es.take m))) := FB.out
            rw [List.take_of_length_le (by rw [HM.out]; exact Nat.le_refl _), HFIT.out] at h1
            exact Iff.trans h1 AG.out
          clear FB
          go_wp2
          go_ret3
          exact ⟨a, k, c, g, c', us, K, V, fb, rfl, OZ.out, PP.out, KF.out, OU.out, VV.out, SE.out, R.out, XX.out⟩
    | true =>
      clear DD
      have HK : Hid (K.length = k) := OZ.out.len
      go_wp2
      go_loopw [11, 12, 13, 14] (fun kv ov mv iv wr => ∃ (i : Nat) (K' : List Int) (a : Option Addr) (k' c g c' : Nat) (us : List Value) (V : Int → List UInt8) (ss : List (EqP × Int)) (mb : Bool), i ≤ m ∧ iv = .int .i64 i ∧ kv = .slice a k' c ∧ ov = .slice (some ⟨g, 0, none⟩) n c' ∧ mv = .bool mb ∧ k' ≤ T ∧ Hid (OwnZ w.heap.size wr (.slice a k' c) k' K') ∧ Hid (K'.Pairwise (· < ·)) ∧ Hid (∀ x ∈ K', Fol (fit.map Qe.of) x) ∧ Hid (SvI (fit.map pairQ) K' V ss) ∧ Hid (wr.ownsRow w.heap.size 38 1 (.slice (some ⟨g, 0, none⟩) n c') n us) ∧ Hid (VsP wr us K' V size) ∧ Hid (∀ u ∈ us, u.oneCell' = true) ∧ Hid (mb = false → k' = k ∧ ∀ q ∈ fitQ (n : Int) (es.take i), (leftZ K' q.of).length ≠ 1) ∧ Hid (mb = true → k < k') ∧ Hid (Below w.heap.size w wr)) (fun _ _ _ iv _ => m - (intOf iv).toNat)
      case atStart => exact ⟨0, K, a, k, c, g, c', us, V, ss, false, by omega, rfl, rfl, rfl, rfl, hkT, OZ, PP, FF, SI, OU, VV, ON, (fun _ => ⟨rfl, by intro l hl; cases hl⟩), (by intro h; cases h), XX⟩
      case round =>
        clear OZ PP FF SI OU VV ON XX
        obtain ⟨i, K', a', k', c1, g, c', us, V, ss, mb, hi, rfl, rfl, rfl, rfl, hkT', OZ, PP, FF, SI, OU, VV, ON, DD, TT, XX⟩ := hrel
        by_cases hlt : i < m
        · obtain ⟨q, hq⟩ : ∃ q, es[i]? = some q := ⟨_, List.getElem?_eq_getElem (by rw [HM.out]; exact hlt)⟩
          have NX : Hid (fitQ (n : Int) (es.take (i + 1)) = fitQ (n : Int) (es.take i) ++ (if fitsI (n : Int) q.of = true then [q] else [])) := fitQ_next hq
          have hqp := HQ.out q (List.mem_of_getElem? hq)
          have hqs := HSZ.out q (List.mem_of_getElem? hq)
          have LL : Hid (q.of.length ≤ 100000) := LEN.out i q hq
          have LM : Hid (FitI (n : Int) q.of → q ∈ fit) := fun h => by rw [← HFIT.out]; exact fitQ_mem.2 ⟨List.mem_of_getElem? hq, h⟩
          have ho' : (es.map Qe.ov)[i]? = some q.ov := by rw [List.getElem?_map, hq]; rfl
          have hv' : (es.map Qe.vv)[i]? = some q.vv := by rw [List.getElem?_map, hq]; rfl
          obtain ⟨ov, vv, of, va⟩ := q
          obtain ⟨la, lc, eo, hl2, hl3⟩ := zs_shape hqp.1
          have eo' : ov = .slice la of.length lc := eo
          subst eo'
          obtain ⟨ba, bc, ev, hb2', hb3'⟩ := bs_shape hqp.2
          have ev' : vv = .slice ba va.length bc := ev
          subst ev'
          have HO' : Hid ((es.map Qe.ov)[i]? = some (.slice la of.length lc)) := ho'
          have HV' : Hid ((es.map Qe.vv)[i]? = some (.slice ba va.length bc)) := hv'
          have HQP : Hid (QeP w ⟨.slice la of.length lc, .slice ba va.length bc, of, va⟩) := hqp
          have HQS : Hid (va.length = size) := hqs
          obtain ⟨b0, off, rfl, ci⟩ := sl_at HP.out XX.out HO'.out
          obtain ⟨b1, off1, rfl, cv⟩ := sl_at HU.out XX.out HV'.out
          have CO : Hid (∀ W, Below w.heap.size w W → W.cell? ⟨b0, off + i, none⟩ = some (.slice la of.length lc)) := fun W hW => by
            obtain ⟨b0', off', e1, e2⟩ := sl_at HP.out hW HO'.out
            injection e1 with e1
            injection e1 with e1 e3 _
            subst e1
            subst e3
            exact e2
          have CV : Hid (∀ W, Below w.heap.size w W → W.cell? ⟨b1, off1 + i, none⟩ = some (.slice ba va.length bc)) := fun W hW => by
            obtain ⟨b1', off1', e1, e2⟩ := sl_at HU.out hW HV'.out
            injection e1 with e1
            injection e1 with e1 e3 _
            subst e1
            subst e3
            exact e2
          clear hq hqp hqs ho' hv' eo ev hl2 hl3 hb2' hb3' cv
          go_wp2_with fail
          refine (rleft_any _ _ K' of wr OZ.out.zs (HQP.out.1.below XX.out) (by have := LL.out; exact Nat.le_trans this (by omega))).mono ?_
          rintro e w2 ⟨a3, m3, c3, rfl, ho3, hb3⟩
          have X2 : Hid (Below w.heap.size w w2) := XX.out.trans (hb3.mono XX.out.size)
          have O2 : Hid (OwnZ w.heap.size w2 (.slice a' k' c1) k' K') := OZ.out.below hb3
          have OU2 : Hid (w2.ownsRow w.heap.size 38 1 (.slice (some ⟨g, 0, none⟩) n c') n us) := owns_kept OU.out fun q hq => hb3.block q (World.ownsRow.lt OU.out q hq).2
          have VV2 : Hid (VsP w2 us K' V size) := VV.out.below hb3
          have ML : Hid ((leftZ K' of).length = m3) := ho3.len
          have L3 : Hid (OwnZ wr.heap.size w2 (.slice a3 m3 c3) m3 (leftZ K' of)) := ho3
          obtain ⟨a3', c3', e3, hc31, hc32, -⟩ := owned_slice ho3
          injection e3 with e31 _ e33
          subst e31
          subst e33
          unfold maxLen at hc32
          have ci2 := CO.out w2 X2.out
          clear ho3 hb3 OZ OU VV XX ci
          go_wp2_with fail
          refine (rfits16_any _ _ of w2 (HQP.out.1.below X2.out)).mono ?_
          rintro e w3 ⟨⟨b, rfl, hb⟩, hb3⟩
          have X3 : Hid (Below w.heap.size w w3) := X2.out.trans (hb3.mono X2.out.size)
          have O3 : Hid (OwnZ w.heap.size w3 (.slice a' k' c1) k' K') := O2.out.below hb3
          have OU3 : Hid (w3.ownsRow w.heap.size 38 1 (.slice (some ⟨g, 0, none⟩) n c') n us) := owns_kept OU2.out fun q hq => hb3.block q (World.ownsRow.lt OU2.out q hq).2
          have VV3 : Hid (VsP w3 us K' V size) := VV2.out.below hb3
          have L33 : Hid (OwnZ wr.heap.size w3 (.slice a3 m3 c3) m3 (leftZ K' of)) := L3.out.below hb3
          clear hb3 O2 OU2 VV2 L3 X2 ci2
          by_cases hf : FitI (n : Int) of
          · have hbt : b = true := hb.2 hf
            subst hbt
            have NY : Hid (fitQ (n : Int) (es.take (i + 1)) = fitQ (n : Int) (es.take i) ++ [⟨.slice la of.length lc, .slice ba va.length bc, of, va⟩]) := by
              have h1 := NX.out
              rw [if_pos (fitsI_iff.2 hf)] at h1
              exact h1
            have LF : Hid ((⟨.slice la of.length lc, .slice ba va.length bc, of, va⟩ : Qe) ∈ fit) := LM.out hf
            have HFI : Hid (FitI (n : Int) of) := hf
            clear hb NX hf LM
            by_cases h1 : m3 = 1
            · subst h1
              obtain ⟨x, hx⟩ : ∃ x, leftZ K' of = [x] := List.length_eq_one_iff.1 ML.out
              have HX : Hid (leftZ K' of = [x]) := hx
              have FX : Hid (Fol (fit.map Qe.of) x ∧ x ∉ K') := fol_left FF.out (List.mem_map.2 ⟨_, LF.out, rfl⟩) hx
              have xof : x ∈ of := by
                have h2 : x ∈ leftZ K' of := by rw [hx]; simp
                exact (leftZ_mem.1 h2).1
              obtain ⟨hx0, hxn⟩ := HFI.out.2 x xof
              obtain ⟨z, rfl⟩ := Int.eq_ofNat_of_zero_le hx0
              have hzn : z < n := by omega
              have PI : Hid ((insI (z : Int) K').Pairwise (· < ·)) := insI_rise PP.out FX.out.2
              have FI : Hid (∀ y ∈ insI (z : Int) K', Fol (fit.map Qe.of) y) := fun y hy => by
                rcases insI_mem.1 hy with rfl | hy
                · exact FX.out.1
                · exact FF.out y hy
              have hkT3 : k' + 1 ≤ T := by
                have h2 := fol_flat (rise_nodup PI.out) FI.out
                rw [insI_length, O3.out.len, HTT.out] at h2
                exact h2
              have hlt3 : k < k' + 1 := by
                cases mb with
                | false => have := (DD.out rfl).1; omega
                | true => have := TT.out rfl; omega
              have SI2 : Hid (SvI (fit.map pairQ) (insI (z : Int) K') (updV1 V (z : Int) (xorAll va ((knZ K' of).map V))) (ss ++ [((of, va), (z : Int))])) := SI.out.snoc (p := (of, va)) (List.mem_map.2 ⟨_, LF.out, rfl⟩) hx
              have Z3 : Zs w3 (.slice a3 1 c3) [(z : Int)] := by rw [← hx]; exact L33.out.zs
              obtain ⟨b3, off3, rfl, c30⟩ := zs_at Z3 (Below.refl _ _) (i := 0) (z := (z : Int)) rfl
              have c31 : w3.cell? ⟨b3, off3, none⟩ = some (.int .i64 (z : Int)) := c30
              have CZ : Hid (∀ W, Below w3.heap.size w3 W → W.cell? ⟨b3, off3, none⟩ = some (.int .i64 (z : Int))) := fun W hW => (hW.cell (cell_block_lt c31)).trans c31
              have CO3 : Hid (∀ W, Below w3.heap.size w3 W → W.cell? ⟨b0, off + i, none⟩ = some (.slice la of.length lc)) := fun W hW => CO.out W (on_below X3.out hW)
              have CV3 : Hid (∀ W, Below w3.heap.size w3 W → W.cell? ⟨b1, off1 + i, none⟩ = some (.slice ba va.length bc)) := fun W hW => CV.out W (on_below X3.out hW)
              have USL : Hid (us.length = n) := by have := (owned_slN OU3.out).1; rw [Nat.mul_one] at this; exact this
              have RC : Hid (∀ W, Below w3.heap.size w3 W → Calls Try.prog 39 #[.slice a' k' c1, .slice la of.length lc, .slice ba va.length bc, .slice (some ⟨g, 0, none⟩) n c'] W fun e w' => ∃ v, e = .returned v ∧ IsRestB w3.heap.size size (xorAll va ((knZ K' of).map V)) v w' ∧ Below W.heap.size W w') := fun W hW => by
                have h2 : Sl 1 W (.slice (some ⟨g, 0, none⟩) n c') us.length us := by
                  have h3 := (owned_slN OU3.out).below hW
                  rw [USL.out]
                  exact h3
                refine (rrest16_any _ _ _ _ K' of va us V size W (O3.out.zs.below hW) (HQP.out.1.below (on_below X3.out hW)) (HQP.out.2.below (on_below X3.out hW)) h2 (VV3.out.below hW) HQS.out (by have := HS3.out; omega) (by have := LL.out; exact Nat.le_trans this (by omega))).mono ?_
                rintro e w' ⟨q, h4, h5, h6, h7⟩
                exact ⟨_, h4, ⟨q, rfl, h5, Nat.le_trans hW.size h6⟩, h7⟩
              have RP : Hid (∀ W v, Below w3.heap.size w3 W → IsRestB w3.heap.size size (xorAll va ((knZ K' of).map V)) v W → Calls Try.prog 38 #[.slice (some ⟨g, 0, none⟩) n c', .int .i64 (z : Int), v] W fun e w' => ∃ v, e = .returned v ∧ IsPutR w3.heap.size n z size us (xorAll va ((knZ K' of).map V)) v w' ∧ Below W.heap.size W w') := fun W v hW hv => by
                obtain ⟨q, rfl, h5, h6⟩ := hv
                have h2 : Sl 1 W (.slice (some ⟨g, 0, none⟩) n c') us.length us := by
                  have h3 := (owned_slN OU3.out).below hW
                  rw [USL.out]
                  exact h3
                refine (rput16_any _ us n z _ _ _ W h2 USL.out hzn ON.out (by have := HN3.out; omega)).mono ?_
                rintro e w' ⟨g', c'', h7, h8, h9⟩
                refine ⟨_, h7, ⟨g', c'', q, rfl, ?_, h5.below h9⟩, h9⟩
                refine ⟨h8.1, ?_⟩
                rcases h8.2 with h | ⟨g2, cap, cur, hv, hg, hx⟩
                · exact .inl h
                · exact .inr ⟨g2, cap, cur, hv, Nat.le_trans hW.size hg, hx⟩
              obtain ⟨X, hXX⟩ : ∃ X, xorAll va ((knZ K' of).map V) = X := ⟨_, rfl⟩
              have HXX : Hid (xorAll va ((knZ K' of).map V) = X) := hXX
              rw [hXX] at SI2
              simp only [hXX] at RC RP
              clear hXX Z3 hx xof hx0 hxn c30 ML PP FF DD TT L33 LF SI
              go_upto_region 11 with fail
              refine wp_region_any (by kernel_rfl) ?_
              obtain ⟨gs, hgs⟩ : ∃ gs : List (Value → World → Prop), gs = [IsV (Value.slice (some { block := g, off := 0 }) n c'), IsV (Value.slice (some { block := b3, off := off3 }) 1 c3), IsV (.pointer (some ⟨b3, off3, none⟩)), IsV (.int .i64 (z : Int)), IsV (Value.slice a' k' c1), IsV (Value.slice (some { block := b0, off := off }) m pc), IsV (Value.int IntKind.i64 ↑i), IsV (.pointer (some ⟨b0, off + i, none⟩)), IsV (.slice la of.length lc), IsV (Value.slice (some { block := b1, off := off1 }) m uc), IsV (Value.int IntKind.i64 ↑i), IsV (.pointer (some ⟨b1, off1 + i, none⟩)), IsV (.slice ba va.length bc), IsV (Value.slice (some { block := g, off := 0 }) n c'), IsAnyV, IsAnyV, IsAnyV] := ⟨_, rfl⟩
              have g0 : Hid (gs[0]? = some (IsV (Value.slice (some { block := g, off := 0 }) n c'))) := by unfold Hid; rw [hgs]; rfl
              have g1 : Hid (gs[1]? = some (IsV (Value.slice (some { block := b3, off := off3 }) 1 c3))) := by unfold Hid; rw [hgs]; rfl
              have g2 : Hid (gs[2]? = some (IsV (.pointer (some ⟨b3, off3, none⟩)))) := by unfold Hid; rw [hgs]; rfl
              have g3 : Hid (gs[3]? = some (IsV (.int .i64 (z : Int)))) := by unfold Hid; rw [hgs]; rfl
              have g4 : Hid (gs[4]? = some (IsV (Value.slice a' k' c1))) := by unfold Hid; rw [hgs]; rfl
              have g5 : Hid (gs[5]? = some (IsV (Value.slice (some { block := b0, off := off }) m pc))) := by unfold Hid; rw [hgs]; rfl
              have g6 : Hid (gs[6]? = some (IsV (Value.int IntKind.i64 ↑i))) := by unfold Hid; rw [hgs]; rfl
              have g7 : Hid (gs[7]? = some (IsV (.pointer (some ⟨b0, off + i, none⟩)))) := by unfold Hid; rw [hgs]; rfl
              have g8 : Hid (gs[8]? = some (IsV (.slice la of.length lc))) := by unfold Hid; rw [hgs]; rfl
              have g9 : Hid (gs[9]? = some (IsV (Value.slice (some { block := b1, off := off1 }) m uc))) := by unfold Hid; rw [hgs]; rfl
              have g10 : Hid (gs[10]? = some (IsV (Value.int IntKind.i64 ↑i))) := by unfold Hid; rw [hgs]; rfl
              have g11 : Hid (gs[11]? = some (IsV (.pointer (some ⟨b1, off1 + i, none⟩)))) := by unfold Hid; rw [hgs]; rfl
              have g12 : Hid (gs[12]? = some (IsV (.slice ba va.length bc))) := by unfold Hid; rw [hgs]; rfl
              have g13 : Hid (gs[13]? = some (IsV (Value.slice (some { block := g, off := 0 }) n c'))) := by unfold Hid; rw [hgs]; rfl
              have g14 : Hid (gs[14]? = some (IsAnyV)) := by unfold Hid; rw [hgs]; rfl
              have g15 : Hid (gs[15]? = some (IsAnyV)) := by unfold Hid; rw [hgs]; rfl
              have g16 : Hid (gs[16]? = some (IsAnyV)) := by unfold Hid; rw [hgs]; rfl
              have gk : Hid (∀ p ∈ gs, ∀ v (U U' : World), p v U → p v U') := by
                unfold Hid
                rw [hgs]
                simp only [List.forall_mem_cons]
                exact ⟨(fun _ _ _ h => h), (fun _ _ _ h => h), (fun _ _ _ h => h), (fun _ _ _ h => h), (fun _ _ _ h => h), (fun _ _ _ h => h), (fun _ _ _ h => h), (fun _ _ _ h => h), (fun _ _ _ h => h), (fun _ _ _ h => h), (fun _ _ _ h => h), (fun _ _ _ h => h), (fun _ _ _ h => h), (fun _ _ _ h => h), (fun _ _ _ h => h), (fun _ _ _ h => h), (fun _ _ _ h => h), by simp⟩
              clear hgs
              have JS : Hid (∀ W8 W8', Below W8.heap.size W8 W8' → (fun W8 => Below w3.heap.size w3 W8) W8 → (fun W8 => Below w3.heap.size w3 W8) W8') := fun W8 W8' hb h => h.trans (hb.mono h.size)
              have st14 : Hid (Stays (IsRestB w3.heap.size size X)) := stays_restb _ _ _
              have st15 : Hid (Stays (IsPutR w3.heap.size n z size us X)) := stays_putr _ _ _ _ _ _
              have st16 : Hid (Stays (IsPutR w3.heap.size n z size us X)) := stays_putr _ _ _ _ _ _
              refine wpAny_inv4 (fun listed ac W8 => ∃ xv8 : Nat → Value, ac = ⟨#[Value.int IntKind.i64 ↑n, Value.int IntKind.i64 ↑size, Value.slice (some { block := b0, off := off }) m pc, Value.slice (some { block := b1, off := off1 }) m uc, undef, undef, undef, undef, Value.slice none 0 0, Value.slice none 0 0, Value.bool false, Value.slice a' k' c1, xv8 16, Value.bool mb, Value.int IntKind.i64 ↑i, Value.slice (some { block := b3, off := off3 }) 1 c3, undef, undef, Value.slice (some { block := w.heap.size, off := 0 }) 0 0, Value.int IntKind.i64 ↑n, Value.slice (some { block := w.heap.size + 1, off := 0 }) n n, Value.bool true, Value.int IntKind.i64 ↑i, Value.slice (some { block := b0, off := off }) m pc, Value.int IntKind.i64 ↑m, Value.bool true, u26, u27, Value.slice a' k' c1, Value.slice (some { block := b0, off := off }) m pc, Value.int IntKind.i64 ↑i, Value.pointer (some { block := b0, off := off + i }), Value.slice la of.length lc, Value.slice (some { block := b3, off := off3 }) 1 c3, Value.int IntKind.i64 ↑n, Value.slice (some { block := b0, off := off }) m pc, Value.int IntKind.i64 ↑i, Value.pointer (some { block := b0, off := off + i }), Value.slice la of.length lc, Value.bool true, Value.bool true, Value.slice (some { block := b3, off := off3 }) 1 c3, Value.int IntKind.i64 (1 : Int), Value.bool true, Value.bool true, xv8 0, xv8 1, xv8 2, xv8 3, xv8 4, xv8 5, xv8 6, xv8 7, xv8 8, xv8 9, xv8 10, xv8 11, xv8 12, xv8 13, xv8 14, xv8 15, u61, u62, u63, u64, u65, undef, undef, undef, undef, undef, undef, undef, undef, undef, undef, undef, undef, undef, undef, undef, undef, undef, undef, undef, undef, undef, undef, undef, undef, undef, undef, undef, undef, undef, undef, undef, undef, undef, undef, undef, undef, undef, undef, undef, undef], []⟩ ∧ (fun W8 => Below w3.heap.size w3 W8) W8 ∧ Lst gs listed xv8 W8 ∧ Fe listed xv8 W8 14 (IsRestB w3.heap.size size X) ∧ Fe listed xv8 W8 15 (IsPutR w3.heap.size n z size us X) ∧ Fe listed xv8 W8 16 (IsPutR w3.heap.size n z size us X) ∧ Ini4 listed xv8 16 (Value.slice (some { block := g, off := 0 }) n c')) (by kernel_rfl) ?_ ?_ _ _ _ _ (by kernel_rfl) (of_decide_eq_true (by kernel_rfl)) (Down.start _) ⟨fun jx => if jx = 0 then u45 else if jx = 1 then u46 else if jx = 2 then u47 else if jx = 3 then u48 else if jx = 4 then u49 else if jx = 5 then u50 else if jx = 6 then u51 else if jx = 7 then u52 else if jx = 8 then u53 else if jx = 9 then u54 else if jx = 10 then u55 else if jx = 11 then u56 else if jx = 12 then u57 else if jx = 13 then u58 else if jx = 14 then u59 else if jx = 15 then u60 else if jx = 16 then Value.slice (some { block := g, off := 0 }) n c' else undef, rfl, below0 _, Lst.start _ _ _ _, Fe.start _ _ _ _ _, Fe.start _ _ _ _ _, Fe.start _ _ _ _ _, (fun _ => rfl)⟩
              · go_light
                rintro listed ac W8 ⟨xv8, rfl, hb, hG, hF14, hF15, hF16, hI16⟩ hD i hi hnl hd
                have hin : i < 17 := hi
                clear hi
                have hcase : i = 0 ∨ i = 1 ∨ i = 2 ∨ i = 3 ∨ i = 4 ∨ i = 5 ∨ i = 6 ∨ i = 7 ∨ i = 8 ∨ i = 9 ∨ i = 10 ∨ i = 11 ∨ i = 12 ∨ i = 13 ∨ i = 14 ∨ i = 15 ∨ i = 16 := by omega
                rcases hcase with rfl | rfl | rfl | rfl | rfl | rfl | rfl | rfl | rfl | rfl | rfl | rfl | rfl | rfl | rfl | rfl | rfl
                · refine wpOp_step rfl (fun K' hK => ?_)
                  have f16 : listed.getD 16 false = false := by
                    cases hx : listed.getD 16 false with
                    | false => rfl
                    | true =>
                      have r0 : listed.getD 0 false = true := by have h := hD 16 (by decide) hx; simp [Region.binds] at h; simp [h]
                      rw [getD_false hnl] at r0; cases r0
                  have ei16 : xv8 16 = Value.slice (some { block := g, off := 0 }) n c' := hI16 f16
                  clear hd hin hD
                  go_simp
                  exact hK _ _ ⟨updV xv8 0 (Value.slice (some { block := g, off := 0 }) n c'), by simp [updV, ei16], hb, hG.any gk.out g0.out _ rfl, hF14.step (fun _ h => h) (by decide) _, hF15.step (fun _ h => h) (by decide) _, hF16.step (fun _ h => h) (by decide) _, hI16.skip (by decide)⟩
                · refine wpOp_step rfl (fun K' hK => ?_)
                  clear hd hin hD
                  go_simp
                  exact hK _ _ ⟨updV xv8 1 (Value.slice (some { block := b3, off := off3 }) 1 c3), by simp [updV], hb, hG.any gk.out g1.out _ rfl, hF14.step (fun _ h => h) (by decide) _, hF15.step (fun _ h => h) (by decide) _, hF16.step (fun _ h => h) (by decide) _, hI16.skip (by decide)⟩
                · refine wpOp_step rfl (fun K' hK => ?_)
                  simp [Region.binds] at hd
                  have e1 : xv8 1 = Value.slice (some { block := b3, off := off3 }) 1 c3 := hG.get g1.out (by simp [hd])
                  clear hd hin hD
                  go_simp
                  exact hK _ _ ⟨updV xv8 2 (.pointer (some ⟨b3, off3, none⟩)), by simp [updV, e1], hb, hG.any gk.out g2.out _ rfl, hF14.step (fun _ h => h) (by decide) _, hF15.step (fun _ h => h) (by decide) _, hF16.step (fun _ h => h) (by decide) _, hI16.skip (by decide)⟩
                · refine wpOp_step rfl (fun K' hK => ?_)
                  simp [Region.binds] at hd
                  have e2 : xv8 2 = .pointer (some ⟨b3, off3, none⟩) := hG.get g2.out (by simp [hd])
                  have cz := CZ.out W8 hb
                  clear hd hin hD
                  go_simp
                  exact hK _ _ ⟨updV xv8 3 (.int .i64 (z : Int)), by simp [updV, e2], hb, hG.any gk.out g3.out _ rfl, hF14.step (fun _ h => h) (by decide) _, hF15.step (fun _ h => h) (by decide) _, hF16.step (fun _ h => h) (by decide) _, hI16.skip (by decide)⟩
                · refine wpOp_step rfl (fun K' hK => ?_)
                  clear hd hin hD
                  go_simp
                  exact hK _ _ ⟨updV xv8 4 (Value.slice a' k' c1), by simp [updV], hb, hG.any gk.out g4.out _ rfl, hF14.step (fun _ h => h) (by decide) _, hF15.step (fun _ h => h) (by decide) _, hF16.step (fun _ h => h) (by decide) _, hI16.skip (by decide)⟩
                · refine wpOp_step rfl (fun K' hK => ?_)
                  clear hd hin hD
                  go_simp
                  exact hK _ _ ⟨updV xv8 5 (Value.slice (some { block := b0, off := off }) m pc), by simp [updV], hb, hG.any gk.out g5.out _ rfl, hF14.step (fun _ h => h) (by decide) _, hF15.step (fun _ h => h) (by decide) _, hF16.step (fun _ h => h) (by decide) _, hI16.skip (by decide)⟩
                · refine wpOp_step rfl (fun K' hK => ?_)
                  clear hd hin hD
                  go_simp
                  exact hK _ _ ⟨updV xv8 6 (Value.int IntKind.i64 ↑i), by simp [updV], hb, hG.any gk.out g6.out _ rfl, hF14.step (fun _ h => h) (by decide) _, hF15.step (fun _ h => h) (by decide) _, hF16.step (fun _ h => h) (by decide) _, hI16.skip (by decide)⟩
                · refine wpOp_step rfl (fun K' hK => ?_)
                  simp [Region.binds] at hd
                  have e5 : xv8 5 = Value.slice (some { block := b0, off := off }) m pc := hG.get g5.out (by simp [hd])
                  have e6 : xv8 6 = Value.int IntKind.i64 ↑i := hG.get g6.out (by simp [hd])
                  clear hd hin hD
                  go_simp
                  exact hK _ _ ⟨updV xv8 7 (.pointer (some ⟨b0, off + i, none⟩)), by simp [updV, e5, e6], hb, hG.any gk.out g7.out _ rfl, hF14.step (fun _ h => h) (by decide) _, hF15.step (fun _ h => h) (by decide) _, hF16.step (fun _ h => h) (by decide) _, hI16.skip (by decide)⟩
                · refine wpOp_step rfl (fun K' hK => ?_)
                  simp [Region.binds] at hd
                  have e7 : xv8 7 = .pointer (some ⟨b0, off + i, none⟩) := hG.get g7.out (by simp [hd])
                  have cz := CO3.out W8 hb
                  clear hd hin hD
                  go_simp
                  exact hK _ _ ⟨updV xv8 8 (.slice la of.length lc), by simp [updV, e7], hb, hG.any gk.out g8.out _ rfl, hF14.step (fun _ h => h) (by decide) _, hF15.step (fun _ h => h) (by decide) _, hF16.step (fun _ h => h) (by decide) _, hI16.skip (by decide)⟩
                · refine wpOp_step rfl (fun K' hK => ?_)
                  clear hd hin hD
                  go_simp
                  exact hK _ _ ⟨updV xv8 9 (Value.slice (some { block := b1, off := off1 }) m uc), by simp [updV], hb, hG.any gk.out g9.out _ rfl, hF14.step (fun _ h => h) (by decide) _, hF15.step (fun _ h => h) (by decide) _, hF16.step (fun _ h => h) (by decide) _, hI16.skip (by decide)⟩
                · refine wpOp_step rfl (fun K' hK => ?_)
                  clear hd hin hD
                  go_simp
                  exact hK _ _ ⟨updV xv8 10 (Value.int IntKind.i64 ↑i), by simp [updV], hb, hG.any gk.out g10.out _ rfl, hF14.step (fun _ h => h) (by decide) _, hF15.step (fun _ h => h) (by decide) _, hF16.step (fun _ h => h) (by decide) _, hI16.skip (by decide)⟩
                · refine wpOp_step rfl (fun K' hK => ?_)
                  simp [Region.binds] at hd
                  have e9 : xv8 9 = Value.slice (some { block := b1, off := off1 }) m uc := hG.get g9.out (by simp [hd])
                  have e10 : xv8 10 = Value.int IntKind.i64 ↑i := hG.get g10.out (by simp [hd])
                  clear hd hin hD
                  go_simp
                  exact hK _ _ ⟨updV xv8 11 (.pointer (some ⟨b1, off1 + i, none⟩)), by simp [updV, e9, e10], hb, hG.any gk.out g11.out _ rfl, hF14.step (fun _ h => h) (by decide) _, hF15.step (fun _ h => h) (by decide) _, hF16.step (fun _ h => h) (by decide) _, hI16.skip (by decide)⟩
                · refine wpOp_step rfl (fun K' hK => ?_)
                  simp [Region.binds] at hd
                  have e11 : xv8 11 = .pointer (some ⟨b1, off1 + i, none⟩) := hG.get g11.out (by simp [hd])
                  have cz := CV3.out W8 hb
                  clear hd hin hD
                  go_simp
                  exact hK _ _ ⟨updV xv8 12 (.slice ba va.length bc), by simp [updV, e11], hb, hG.any gk.out g12.out _ rfl, hF14.step (fun _ h => h) (by decide) _, hF15.step (fun _ h => h) (by decide) _, hF16.step (fun _ h => h) (by decide) _, hI16.skip (by decide)⟩
                · refine wpOp_step rfl (fun K' hK => ?_)
                  have f16 : listed.getD 16 false = false := by
                    cases hx : listed.getD 16 false with
                    | false => rfl
                    | true =>
                      have r13 : listed.getD 13 false = true := by have h := hD 16 (by decide) hx; simp [Region.binds] at h; simp [h]
                      rw [getD_false hnl] at r13; cases r13
                  have ei16 : xv8 16 = Value.slice (some { block := g, off := 0 }) n c' := hI16 f16
                  clear hd hin hD
                  go_simp
                  exact hK _ _ ⟨updV xv8 13 (Value.slice (some { block := g, off := 0 }) n c'), by simp [updV, ei16], hb, hG.any gk.out g13.out _ rfl, hF14.step (fun _ h => h) (by decide) _, hF15.step (fun _ h => h) (by decide) _, hF16.step (fun _ h => h) (by decide) _, hI16.skip (by decide)⟩
                · refine wpOp_step rfl (fun K' hK => ?_)
                  simp [Region.binds] at hd
                  have e4 : xv8 4 = Value.slice a' k' c1 := hG.get g4.out (by simp [hd])
                  have e8 : xv8 8 = .slice la of.length lc := hG.get g8.out (by simp [hd])
                  have e12 : xv8 12 = .slice ba va.length bc := hG.get g12.out (by simp [hd])
                  have e13 : xv8 13 = Value.slice (some { block := g, off := 0 }) n c' := hG.get g13.out (by simp [hd])
                  clear hd hin hD
                  go_simp
                  refine (RC.out W8 hb).mono ?_
                  rintro e w' ⟨v, rfl, hv, hb'⟩
                  go_wp2_with fail
                  exact ⟨updV xv8 14 v, by simp [updV, e4, e8, e12, e13], JS.out _ _ hb' hb, hG.any gk.out g14.out v trivial, Fe.new (hv), hF15.on st15.out hb' (by decide) _, hF16.on st16.out hb' (by decide) _, hI16.skip (by decide)⟩
                · refine wpOp_step rfl (fun K' hK => ?_)
                  simp [Region.binds] at hd
                  have e0 : xv8 0 = Value.slice (some { block := g, off := 0 }) n c' := hG.get g0.out (by simp [hd])
                  have e3 : xv8 3 = .int .i64 (z : Int) := hG.get g3.out (by simp [hd])
                  have l14 : listed.getD 14 false = true := by simp [hd]
                  have m14 := hF14 l14
                  clear hd hin hD
                  go_simp
                  refine (RP.out W8 _ hb m14).mono ?_
                  rintro e w' ⟨v, rfl, hv, hb'⟩
                  go_wp2_with fail
                  exact ⟨updV xv8 15 v, by simp [updV, e0, e3], JS.out _ _ hb' hb, hG.any gk.out g15.out v trivial, hF14.on st14.out hb' (by decide) _, Fe.new (hv), hF16.on st16.out hb' (by decide) _, hI16.skip (by decide)⟩
                · refine wpOp_step rfl (fun K' hK => ?_)
                  simp [Region.binds] at hd
                  have l15 : listed.getD 15 false = true := by simp [hd]
                  have m15 := hF15 l15
                  clear hd hin hD
                  go_simp
                  exact hK _ _ ⟨updV xv8 16 (xv8 15), by simp [updV], hb, hG.any gk.out g16.out _ trivial, hF14.step (fun _ h => h) (by decide) _, hF15.step (fun _ h => h) (by decide) _, Fe.new (m15), Ini4.done hnl⟩
              · rintro listed ac W8 ⟨xv8, rfl, hb, hG, hF14, hF15, hF16, hI16⟩ hall
                have m16 : Hid ((IsPutR w3.heap.size n z size us X) (xv8 16) W8) := hF16 (hall 16 (by decide))
                have XW : Hid ((fun W8 => Below w3.heap.size w3 W8) W8) := hb
                clear hall hG hb gk JS g0 g1 g2 g3 g4 g5 g6 g7 g8 g9 g10 g11 g12 g13 g14 g15 g16 hF14 st14 hF15 st15 hF16 st16 hI16
                obtain ⟨g8, c8, q8, e16, hO8, hB8⟩ := m16.out
                rw [e16] at hO8 ⊢
                obtain ⟨w8, hw8⟩ : ∃ x, x = W8 := ⟨_, rfl⟩
                subst hw8
                have O8 : Hid (w8.ownsRow w.heap.size 38 1 (.slice (some ⟨g8, 0, none⟩) n c8) n (us.set z (.slice (some ⟨q8, 0, none⟩) size size))) := by
                  refine ⟨hO8.1, ?_⟩
                  rcases hO8.2 with h | ⟨g2, cap, cur, hv, hg, hx⟩
                  · exact .inl h
                  · exact .inr ⟨g2, cap, cur, hv, Nat.le_trans X3.out.size hg, hx⟩
                have B8 : Hid (Bs w8 (.slice (some ⟨q8, 0, none⟩) size size) X) := hB8
                have X8 : Hid (Below w.heap.size w w8) := on_below X3.out XW.out
                have OZ8 : Hid (OwnZ w.heap.size w8 (.slice a' k' c1) k' K') := O3.out.below XW.out
                have VV8 : Hid (VsP w8 us K' V size) := VV3.out.below XW.out
                have c38 := CZ.out w8 XW.out
                have KL : Hid (K'.length = k') := O3.out.len
                have XL : Hid (X.length = size) := (bs_len hB8).1.symm
                clear m16 e16 hO8 hB8 XW RC RP CZ CO3 CV3 O3 OU3 VV3 c31 X3
                go_wp2_with fail
                refine (rins_any (z : Int) _ K' k' w8 OZ8.out.zs KL.out (by omega)).mono ?_
                rintro e w9 ⟨a9, c9, rfl, ho9, hb9⟩
                have X9 : Hid (Below w.heap.size w w9) := X8.out.trans (hb9.mono X8.out.size)
                have OZ9 : Hid (OwnZ w.heap.size w9 (.slice a9 (k' + 1) c9) (k' + 1) (insI (z : Int) K')) := ho9.mono X8.out.size
                have O9 : Hid (w9.ownsRow w.heap.size 38 1 (.slice (some ⟨g8, 0, none⟩) n c8) n (us.set z (.slice (some ⟨q8, 0, none⟩) size size))) := owns_kept O8.out fun q hq => hb9.block q (World.ownsRow.lt O8.out q hq).2
                have VV9 : Hid (VsP w9 (us.set z (.slice (some ⟨q8, 0, none⟩) size size)) (insI (z : Int) K') (updV1 V (z : Int) X) size) := by
                  intro y hy
                  by_cases hyz : y = (z : Int)
                  · subst hyz
                    refine ⟨z, _, rfl, by rw [List.getElem?_set_self (by rw [USL.out]; exact hzn)], ?_, ?_⟩
                    · rw [updV1_same]; exact B8.out.below hb9
                    · rw [updV1_same]; exact XL.out
                  · obtain ⟨m', u, h1, h2, h3, h4⟩ := VV8.out y (by rcases insI_mem.1 hy with h | h; exact absurd h hyz; exact h)
                    refine ⟨m', u, h1, ?_, ?_, ?_⟩
                    · rw [List.getElem?_set_ne (by rintro rfl; exact hyz h1)]
                      exact h2
                    · rw [updV1_other hyz]; exact h3.below hb9
                    · rw [updV1_other hyz]; exact h4
                have ON9 : Hid (∀ u ∈ us.set z (.slice (some ⟨q8, 0, none⟩) size size), u.oneCell' = true) := fun u hu => by
                  rcases List.mem_or_eq_of_mem_set hu with h | h
                  · exact ON.out u h
                  · rw [h]; rfl
                clear ho9 hb9 OZ8 O8 VV8 B8 X8 c38 KL XL
                go_wp2
                go_roundw
                case rel => exact ⟨i + 1, insI (z : Int) K', a9, k' + 1, c9, g8, c8, _, _, _, true, by omega, by go_num, rfl, rfl, rfl, hkT3, OZ9, PI, FI, SI2, O9, VV9, ON9, (by intro h; cases h), (fun _ => hlt3), X9⟩
                case measure => simp [intOf]; omega
            · have d : decide ((m3 : Int) = 1) = false := decide_eq_false (by omega)
              have D4 : Hid (mb = false → k' = k ∧ ∀ q ∈ fitQ (n : Int) (es.take (i + 1)), (leftZ K' q.of).length ≠ 1) := fun h => by
                refine ⟨(DD.out h).1, fun l' hl' => ?_⟩
                rw [NY.out] at hl'
                rcases List.mem_append.1 hl' with h2 | h2
                · exact (DD.out h).2 l' h2
                · rw [List.mem_singleton.1 h2]
                  show (leftZ K' of).length ≠ 1
                  rw [ML.out]
                  exact h1
              clear DD ML L33 NY
              go_wp2
              go_roundw
              case rel => exact ⟨i + 1, K', a', k', c1, g, c', us, V, ss, mb, by omega, by go_num, rfl, rfl, rfl, hkT', O3, PP, FF, SI, OU3, VV3, ON, D4, TT, X3⟩
              case measure => simp [intOf]; omega
          · have hbf : b = false := by cases b with
              | false => rfl
              | true => exact absurd (hb.1 rfl) hf
            subst hbf
            have D4 : Hid (mb = false → k' = k ∧ ∀ q ∈ fitQ (n : Int) (es.take (i + 1)), (leftZ K' q.of).length ≠ 1) := fun h => by
              refine ⟨(DD.out h).1, fun l' hl' => ?_⟩
              rw [NX.out, if_neg (fun h => hf (fitsI_iff.1 h)), List.append_nil] at hl'
              exact (DD.out h).2 l' hl'
            clear hb NX DD hf LM L33 ML
            go_wp2
            go_roundw
            case rel => exact ⟨i + 1, K', a', k', c1, g, c', us, V, ss, mb, by omega, by go_num, rfl, rfl, rfl, hkT', O3, PP, FF, SI, OU3, VV3, ON, D4, TT, X3⟩
            case measure => simp [intOf]; omega
        · obtain rfl : m = i := by omega
          have D5 : Hid (mb = false → Done (fit.map Qe.of) K') := fun h l hl => by
            have h1 := (DD.out h).2
            rw [List.take_of_length_le (by rw [HM.out]; exact Nat.le_refl _), HFIT.out] at h1
            obtain ⟨q, hq, rfl⟩ := List.mem_map.1 hl
            exact h1 q hq
          have hlt5 : 2 * (T - k') + oneV (.bool mb) < 2 * (T - k) + 1 := by
            cases mb with
            | false => have := (DD.out rfl).1; simp [oneV]; omega
            | true => have := TT.out rfl; simp [oneV]; omega
          clear DD TT
          go_wp2
          go_roundw
          case rel => exact ⟨K', a', k', c1, g, c', us, V, ss, mb, rfl, rfl, rfl, hkT', OZ, PP, FF, SI, OU, VV, ON, D5, XX⟩
          case measure =>
            show 2 * (T - k') + oneV (.bool mb) < 2 * (T - k) + 1
            exact hlt5

end Go.Proofs.Ytkckbeekehecnaa
