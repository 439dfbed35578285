/-
  Equations of a size; ClosureAgrees.
-/
import Derived.Test.YtkckbeekehecnaaKX
namespace Go.Proofs.Ytkckbeekehecnaa
open Go.RowKit
set_option linter.unusedVariables false

theorem isown_bs {B : Nat} {l : List UInt8} {v : Value} {W : World} (h : IsOwn B l v W) : Bs W v l := by
  obtain ⟨q, cap, post, rfl, h2, h3, h4, h5, -⟩ := h
  exact h3.bs0 l.length cap rfl h4 h5
theorem isown_grown {B B1 n sz : Nat} {l : List UInt8} {v u : Value} {W W' : World} {e : TypeId} {cs : List Value} (h : IsOwn B l v W) (ho : W.ownsRow B1 e sz u n cs) (hg : W.grownBy W' u.ownBlock) (he : 5 ≠ e) : IsOwn B l v W' := by
  obtain ⟨q, cap, post, h1, h2, h3, h4⟩ := h
  exact ⟨q, cap, post, h1, h2, h3.kept (grown_kind ho hg h3 he), h4⟩
theorem isown_blk {B q n : Nat} {l : List UInt8} {W : World} (h : Blk W q [] l []) (hn : l.length = n) (hq : B ≤ q) (hl : n ≤ 1000000) : IsOwn B l (.slice (some ⟨q, 0, none⟩) n n) W := by
  subst hn
  exact ⟨q, l.length, [], rfl, hq, h, Nat.le_refl _, by unfold maxLen; omega, by simp⟩
/-- An equation of one's own value. -/
def QeK (B : Nat) (w W : World) (e : Qe) : Prop := Zs w e.ov e.of ∧ IsOwn B e.va e.vv W
theorem QeK.below {B : Nat} {w W W' : World} {e : Qe} (h : QeK B w W e) (hb : Below W.heap.size W W') : QeK B w W' e := ⟨h.1, stays_own _ _ _ _ _ hb h.2⟩
theorem QeK.grown {B B1 n sz : Nat} {u : Value} {w W W' : World} {e : TypeId} {cs : List Value} {q : Qe} (h : QeK B w W q) (ho : W.ownsRow B1 e sz u n cs) (hg : W.grownBy W' u.ownBlock) (he : 5 ≠ e) : QeK B w W' q := ⟨h.1, isown_grown h.2 ho hg he⟩
theorem QeK.qep {B : Nat} {w W : World} {e : Qe} (h : QeK B w W e) (hb : Below w.heap.size w W) : QeP W e := ⟨h.1.below hb, isown_bs h.2⟩
def XBox (B A S : Nat) (pv qv : Value) (W : World) : Prop := W.heap[B]? = some (.cells #[.int .u8 (A : Int), .int .u8 (S : Int), pv, qv] 25 (0, 0))
theorem XBox.below {B A S : Nat} {pv qv : Value} {W W' : World} (h : XBox B A S pv qv W) (hb : Below W.heap.size W W') : XBox B A S pv qv W' := (hb.block _ (Array.getElem?_eq_some_iff.1 h).1).trans h
theorem XBox.grown {B A S : Nat} {pv qv : Value} {B1 n sz : Nat} {u : Value} {W W' : World} {e : TypeId} {cs : List Value} (h : XBox B A S pv qv W) (ho : W.ownsRow B1 e sz u n cs) (hg : W.grownBy W' u.ownBlock) (he : 25 ≠ e) : XBox B A S pv qv W' := (grown_kind ho hg h he).trans h
theorem XBox.cells {B A S : Nat} {pv qv : Value} {W : World} (h : XBox B A S pv qv W) : W.cell? ⟨B, 0, none⟩ = some (.int .u8 (A : Int)) ∧ W.cell? ⟨B, 1, none⟩ = some (.int .u8 (S : Int)) ∧ W.cell? ⟨B, 2, none⟩ = some pv ∧ W.cell? ⟨B, 3, none⟩ = some qv := by
  unfold XBox at h
  simp [World.cell?, h]
theorem XBox.new (w : World) (A S : Nat) (pv qv : Value) : XBox w.heap.size A S pv qv (w.alloc (.cells #[.int .u8 (A : Int), .int .u8 (S : Int), pv, qv] 25)) := heap_new _ _
/-- What the two lists hold behind i rounds. -/
structure EqsQ (n i : Nat) (vs : List Value) (ls : List (List Int)) (xs : List (List UInt8)) (es es2 : List Qe) : Prop where
  l1 : es.length = i
  l2 : es2.length = i
  ov : es2.map Qe.ov = vs.take i
  pr : es.map pairQ = es2.map pairQ
  of : es.map Qe.of = ls.take i
  va : ∀ e ∈ es, e.va.length = n
theorem EqsQ.nil (n : Nat) (vs : List Value) (ls : List (List Int)) (xs : List (List UInt8)) : EqsQ n 0 vs ls xs [] [] := ⟨rfl, rfl, rfl, rfl, rfl, fun e he => by cases he⟩
theorem EqsQ.snoc {n i : Nat} {vs : List Value} {ls : List (List Int)} {xs : List (List UInt8)} {es es2 : List Qe} (h : EqsQ n i vs ls xs es es2) {ov v1 v2 : Value} {of : List Int} {Y : List UInt8} (hv : vs[i]? = some ov) (hl : ls[i]? = some of) (hY : Y.length = n) :
    EqsQ n (i + 1) vs ls xs (es ++ [⟨ov, v1, of, Y⟩]) (es2 ++ [⟨ov, v2, of, Y⟩]) := by
  obtain ⟨a1, a2⟩ := List.getElem?_eq_some_iff.1 hv
  obtain ⟨b1, b2⟩ := List.getElem?_eq_some_iff.1 hl
  refine ⟨by rw [List.length_append, h.l1]; rfl, by rw [List.length_append, h.l2]; rfl, ?_, ?_, ?_, fun e he => ?_⟩
  · rw [List.map_append, h.ov, List.take_succ_eq_append_getElem a1, a2]; rfl
  · rw [List.map_append, List.map_append, h.pr]; rfl
  · rw [List.map_append, h.of, List.take_succ_eq_append_getElem b1, b2]; rfl
  · rcases List.mem_append.1 he with h1 | h1
    · exact h.va e h1
    · rw [List.mem_singleton.1 h1]; exact hY
theorem qek_snoc {B : Nat} {w W : World} {es : List Qe} {e : Qe} (h : ∀ q ∈ es, QeK B w W q) (he : QeK B w W e) : ∀ q ∈ es ++ [e], QeK B w W q := fun q hq => by
  rcases List.mem_append.1 hq with h1 | h1
  · exact h q h1
  · rw [List.mem_singleton.1 h1]; exact he

set_option maxRecDepth 100000 in
set_option maxHeartbeats 4000000 in
theorem kequations_any (A S : Nat) (pv qv : Value) (vs us : List Value) (ls : List (List Int)) (xs : List (List UInt8)) (n : Nat) (w : World) (hn : S % 6 = n) (hS : S < 256) (hp : Sl 1 w pv vs.length vs) (hz : LsZ w vs ls) (hq : Sl 1 w qv us.length us) (hx : Parts w us xs) (hm0 : vs.length ≤ 1000) :
    Calls Try.prog 12 #[.agg #[.int .u8 (A : Int), .int .u8 (S : Int), pv, qv]] w fun e w' => ∃ (lv uv : Value) (es es2 : List Qe), e = .returned (.tuple #[lv, uv]) ∧ OwnE w.heap.size w' lv es.length es ∧ w'.ownsRow w.heap.size 38 1 uv es2.length (es2.map Qe.vv) ∧ (∀ q ∈ es, QeK w.heap.size w w' q) ∧ (∀ q ∈ es2, QeK w.heap.size w w' q) ∧ EqsQ n vs.length vs ls xs es es2 ∧ Below w.heap.size w w' := by
  obtain ⟨i0, hi0, hz0, hz1, hz2⟩ := info_parts Try.infoByte
  have hn6 : n < 6 := by omega
  have eS : (S : Int) % 6 = (n : Int) := by omega
  have HZ : Hid (LsZ w vs ls) := hz
  have HX : Hid (Parts w us xs) := hx
  obtain ⟨M, hM⟩ : ∃ M, vs.length = M := ⟨_, rfl⟩
  obtain ⟨U, hU⟩ : ∃ U, us.length = U := ⟨_, rfl⟩
  have HM : Hid (vs.length = M) := hM
  have HUL : Hid (us.length = U) := hU
  have HL : Hid (ls.length = M) := by have := hz.1; unfold Hid; omega
  have hp' := hp
  obtain ⟨-, ao, pc, rfl, hp2, hp3, -, -⟩ := hp'
  have hq' := hq
  obtain ⟨-, uo, uc, rfl, hq2, hq3, -, -⟩ := hq'
  unfold maxLen at hp3 hq3
  have HP : Hid (Sl 1 w (.slice ao M pc) vs.length vs) := by unfold Hid; rw [hM] at hp ⊢; exact hp
  have HQ : Hid (Sl 1 w (.slice uo U uc) us.length us) := by unfold Hid; rw [hU] at hq ⊢; exact hq
  rw [hM] at hp2 hm0 ⊢
  rw [hU] at hq2 ⊢
  clear hM hU hz hx hp hq hn
  go_enter Try.func12, Try.ntmps12
  go_wp2
  have BX : Hid (XBox w.heap.size A S (.slice ao M pc) (.slice uo U uc) (w.alloc (.cells #[.int .u8 (A : Int), .int .u8 (S : Int), .slice ao M pc, .slice uo U uc] 25))) := XBox.new _ _ _ _ _
  have X1 : Hid (Below w.heap.size w (w.alloc (.cells #[.int .u8 (A : Int), .int .u8 (S : Int), .slice ao M pc, .slice uo U uc] 25))) := below_alloc _ _
  obtain ⟨w1, hw1⟩ : ∃ x, w.alloc (.cells #[.int .u8 (A : Int), .int .u8 (S : Int), .slice ao M pc, .slice uo U uc] 25) = x := ⟨_, rfl⟩
  rw [hw1] at BX X1 ⊢
  clear hw1
  go_loopw [4, 5, 12] (fun lv uv iv wr => ∃ (i : Nat) (la : Option Addr) (lc : Nat) (ua : Option Addr) (uc' : Nat) (es es2 : List Qe), i ≤ M ∧ iv = .int .i64 i ∧ lv = .slice la i lc ∧ uv = .slice ua i uc' ∧ Hid (OwnE w.heap.size wr (.slice la i lc) i es) ∧ Hid (wr.ownsRow w.heap.size 38 1 (.slice ua i uc') i (es2.map Qe.vv)) ∧ Hid (∀ q ∈ es, QeK w.heap.size w wr q) ∧ Hid (∀ q ∈ es2, QeK w.heap.size w wr q) ∧ Hid (EqsQ n i vs ls xs es es2) ∧ Hid (XBox w.heap.size A S (.slice ao M pc) (.slice uo U uc) wr) ∧ Hid (Below w.heap.size w wr)) (fun _ _ iv _ => M - (intOf iv).toNat)
  case atStart => exact ⟨0, none, 0, none, 0, [], [], by omega, rfl, rfl, rfl, OwnE.nil _ _, ⟨rfl, .inl ⟨rfl, rfl⟩⟩, (by intro q hq; cases hq), (by intro q hq; cases hq), EqsQ.nil _ _ _ _, BX, X1⟩
  case round =>
    clear BX X1
    obtain ⟨i, la, lc, ua, uc', es, es2, hi, rfl, rfl, rfl, EE, RR, Q1, Q2, II, BX, XX⟩ := hrel
    by_cases hlt : i < M
    · obtain ⟨of, hof⟩ : ∃ of, ls[i]? = some of := ⟨_, List.getElem?_eq_getElem (by rw [HL.out]; exact hlt)⟩
      obtain ⟨ov, hov, hoz⟩ := HZ.out.at hof
      obtain ⟨b, off, rfl, ci⟩ := sl_at HP.out XX.out hov
      obtain ⟨oa, oc, rfl, ho2, ho3⟩ := zs_shape hoz
      have HOF : Hid (ls[i]? = some of) := hof
      have HOV : Hid (vs[i]? = some (.slice oa of.length oc)) := hov
      have HOZ : Hid (Zs w (.slice oa of.length oc) of) := hoz
      obtain ⟨x0, x1, x2, x3⟩ := BX.out.cells
      clear hof hov hoz
      go_upto_region 7 with (simp only [eS]; at_make; refine wpList_make_full _ rfl _ _ 38 rfl wr.heap.size 5 i0 (.int .u8 0) 1 Try.underlying38 hi0 hz0 hz1 _ _ _ _ n rfl rfl rfl rfl (by rw [hz2]; omega) (by unfold maxLen; omega) (Nat.le_refl _) ?_; intro w4 ho4 hg4)
      have X4 : Hid (Below wr.heap.size wr w4) := below_new hg4
      obtain ⟨q, hq⟩ : ∃ q, wr.heap.size = q := ⟨_, rfl⟩
      have hqB : Hid (w.heap.size ≤ q) := by unfold Hid; rw [← hq]; exact XX.out.size
      have K4 : Hid (Blk w4 q [] (zeros n) []) := by unfold Hid; rw [← hq]; exact made_blk ho4
      have Hq : Hid (wr.heap.size = q) := hq
      obtain ⟨x0, x1, x2, x3⟩ := (XBox.below BX.out X4.out).cells
      have XX4 : Hid (Below w.heap.size w w4) := on_below XX.out X4.out
      rw [hq]
      clear ho4 hg4 hq ci
      by_cases hiu : i < U
      · have dU : decide ((i : Int) < (U : Int)) = true := decide_eq_true (by omega)
        obtain ⟨u, hu⟩ : ∃ u, us[i]? = some u := ⟨_, List.getElem?_eq_getElem (by rw [HUL.out]; exact hiu)⟩
        have hixs : i < xs.length := by have h1 := HX.out.1; have h2 := HUL.out; omega
        obtain ⟨x, hx⟩ : ∃ x, xs[i]? = some x := ⟨_, List.getElem?_eq_getElem hixs⟩
        obtain ⟨b2, off2, rfl, cu⟩ := sl_at HQ.out XX4.out hu
        have KX : Hid (Bs w4 u x) := (HX.out.2 i u x hu hx).below XX4.out
        obtain ⟨xa, xc, eu, hx2, hx3⟩ := bs_shape KX.out
        subst eu
        clear hx hu
        obtain ⟨k, hk⟩ : ∃ k, x.length = k := ⟨_, rfl⟩
        have HK : Hid (x.length = k) := hk
        rw [hk] at cu KX hx2
        clear hk
        go_upto_region 9 with (refine wpList_copyM _ rfl (.tmp 27) (.tmp 32) rfl (some ⟨q, 0, none⟩) n n q 0 (zeros n) x _ rfl rfl K4.out KX.out (fun _ => rfl) (by rw [zeros_length]; omega) (min k n) (by rw [HK.out]) ?_; intro w5 hk5 hb5 hs5)
        have K5' : Hid (Blk w5 q [] (padTo n x) []) := by
          have e : (zeros n).take 0 ++ x.take n ++ (zeros n).drop (0 + min k n) = padTo n x := by
            unfold padTo
            rw [List.take_zero, List.nil_append, Nat.zero_add]
            congr 1
            unfold zeros
            rw [List.drop_replicate]
            congr 1
            have := HK.out
            omega
          rw [e] at hk5
          exact hk5
        have X5 : Hid (Below wr.heap.size wr w5) := by
          have h1 := X4.out
          have h2 := hb5
          rw [← Hq.out] at h2
          exact h1.trans h2
        obtain ⟨Y, hY⟩ : ∃ Y, padTo n x = Y := ⟨_, rfl⟩
        have YL : Hid (Y.length = n) := by unfold Hid; rw [← hY]; exact padTo_length _ _
        have K5 : Hid (Blk w5 q [] Y []) := by rw [← hY]; exact K5'.out
        clear hk5 hb5 hs5 X4 K4 K5' KX hY x0 x1 x2 x3 cu
        have E5 : Hid (OwnE w.heap.size w5 (.slice la i lc) i es) := OwnE.below EE.out X5.out
        have R5 : Hid (w5.ownsRow w.heap.size 38 1 (.slice ua i uc') i (es2.map Qe.vv)) := owns_below RR.out X5.out
        have Q15 : Hid (∀ q ∈ es, QeK w.heap.size w w5 q) := fun q hq => QeK.below (Q1.out q hq) X5.out
        have Q25 : Hid (∀ q ∈ es2, QeK w.heap.size w w5 q) := fun q hq => QeK.below (Q2.out q hq) X5.out
        have BX5 : Hid (XBox w.heap.size A S (.slice (some ⟨b, off, none⟩) M pc) (.slice (some ⟨b2, off2, none⟩) U uc) w5) := XBox.below BX.out X5.out
        have XX5 : Hid (Below w.heap.size w w5) := on_below XX.out X5.out
        clear X5 EE RR Q1 Q2 BX XX Hq
        have R6 : Hid ((w5.alloc (.cells #[.slice (some ⟨q, 0, none⟩) n n] 38)).ownsRow w.heap.size 38 1 (.slice ua i uc') i (es2.map Qe.vv)) := owns_below R5.out (below_alloc _ _)
        have S6 : Hid (w.heap.size ≤ (w5.alloc (.cells #[.slice (some ⟨q, 0, none⟩) n n] 38)).heap.size) := Nat.le_trans XX5.out.size (below_alloc w5 _).size
        go_upto_region 10 with (at_builtin; refine wpList_addS _ rfl (.tmp 34) (.tmp 36) rfl w.heap.size (.slice ua i uc') i _ rfl R6.out _ (.slice (some ⟨q, 0, none⟩) n n) rfl rfl (alloc_one _ _) (by omega) S6.out ?_; intro a7 c7 w7 ho7 hg7 hnc7 hcm7)
        have X7 : Hid (Below w.heap.size w w7) := below_ownR (XX5.out.alloc XX5.out.size _) R6.out (Nat.le_refl _) S6.out hg7
        have R7 : Hid (w7.ownsRow w.heap.size 38 1 (.slice a7 (i + 1) c7) (i + 1) (es2.map Qe.vv ++ [.slice (some ⟨q, 0, none⟩) n n])) := ho7
        have K7 : Hid (Blk w7 q [] Y []) := (K5.out.below (below_alloc _ _)).kept (grown_kindR R6.out hg7 (K5.out.below (below_alloc _ _)) (by decide))
        have Q17 : Hid (∀ q ∈ es, QeK w.heap.size w w7 q) := fun q hq => QeK.grown (QeK.below (Q15.out q hq) (below_alloc _ _)) R6.out hg7 (by decide)
        have Q27 : Hid (∀ q ∈ es2, QeK w.heap.size w w7 q) := fun q hq => QeK.grown (QeK.below (Q25.out q hq) (below_alloc _ _)) R6.out hg7 (by decide)
        have BX7 : Hid (XBox w.heap.size A S (.slice (some ⟨b, off, none⟩) M pc) (.slice (some ⟨b2, off2, none⟩) U uc) w7) := XBox.grown (XBox.below BX5.out (below_alloc _ _)) R6.out hg7 (by decide)
        have E7 : Hid (OwnE w.heap.size w7 (.slice la i lc) i es) := by
          have h1 := OwnE.below E5.out (below_alloc w5 (.cells #[.slice (some ⟨q, 0, none⟩) n n] 38))
          refine OwnE.kept h1 fun g hg => ?_
          obtain ⟨cs, hc⟩ := OwnE.kind h1 hg
          exact grown_kindR R6.out hg7 hc (by decide)
        have BY : Hid (Bs w7 (.slice (some ⟨q, 0, none⟩) n n) Y) := isown_bs (isown_blk (B := 0) K7.out YL.out (Nat.zero_le _) (by omega))
        clear ho7 hg7 E5 R5 Q15 Q25 BX5 XX5 K5 R6 S6
        go_upto_region 11 with (first | (at_builtin; refine wpList_copy w7 rfl (.tmp 40) (.tmp 41) rfl Y _ _ rfl rfl rfl BY.out (by rw [YL.out]; omega) ?_; intro q8 c8 w8 hown8 hb8; rw [YL.out] at hown8 ⊢; have O8 : Hid (IsOwn w.heap.size Y (.slice (some ⟨q8, 0, none⟩) n c8) w8) := (by obtain ⟨q, cap, post, h1, h2, h3⟩ := hown8; exact ⟨q, cap, post, h1, Nat.le_trans X7.out.size h2, h3⟩); have X8 : Hid (Below w.heap.size w w8) := on_below X7.out hb8; have R8 : Hid (w8.ownsRow w.heap.size 38 1 (.slice a7 (i + 1) c7) (i + 1) (es2.map Qe.vv ++ [.slice (some ⟨q, 0, none⟩) n n])) := owns_below R7.out hb8; have K8 : Hid (Blk w8 q [] Y []) := K7.out.below hb8; have Q18 : Hid (∀ q ∈ es, QeK w.heap.size w w8 q) := fun q hq => QeK.below (Q17.out q hq) hb8; have Q28 : Hid (∀ q ∈ es2, QeK w.heap.size w w8 q) := fun q hq => QeK.below (Q27.out q hq) hb8; have BX8 : Hid (XBox w.heap.size A S (.slice (some ⟨b, off, none⟩) M pc) (.slice (some ⟨b2, off2, none⟩) U uc) w8) := XBox.below BX7.out hb8; have E8 : Hid (OwnE w.heap.size w8 (.slice la i lc) i es) := OwnE.below E7.out hb8; clear hown8 hb8 X7 R7 K7 Q17 Q27 BX7 E7 BY; have EA : Hid (OwnE w.heap.size (w8.alloc (.cells #[.slice oa of.length oc, .slice (some ⟨q8, 0, none⟩) n c8] 43)) (.slice la i lc) i es) := OwnE.below E8.out (below_alloc _ _); have XA : Hid (Below w.heap.size w (w8.alloc (.cells #[.slice oa of.length oc, .slice (some ⟨q8, 0, none⟩) n c8] 43))) := X8.out.alloc X8.out.size _; have SA : Hid (w.heap.size ≤ (w8.alloc (.cells #[.slice oa of.length oc, .slice (some ⟨q8, 0, none⟩) n c8] 43)).heap.size) := XA.out.size) | (at_builtin; refine wpList_addE _ rfl (.tmp 38) (.tmp 44) rfl w.heap.size (.slice la i lc) i es rfl EA.out _ 1 [⟨.slice oa of.length oc, .slice (some ⟨q8, 0, none⟩) n c8, of, Y⟩] rfl one_src (by intro u hu; simp [Qe.cells] at hu; rcases hu with rfl | rfl <;> rfl) (by omega) SA.out ?_; intro a9 c9 w9 ho9 hg9))
        have E9 : Hid (OwnE w.heap.size w9 (.slice a9 (i + 1) c9) (i + 1) (es ++ [⟨.slice oa of.length oc, .slice (some ⟨q8, 0, none⟩) n c8, of, Y⟩])) := ho9
        have X9 : Hid (Below w.heap.size w w9) := XA.out.grown hg9 XA.out.size (fun k hk => (OwnE.lt EA.out k hk).1)
        have QK9 : ∀ e : Qe, QeK w.heap.size w w8 e → QeK w.heap.size w w9 e := fun e he => QeK.grown (QeK.below he (below_alloc _ _)) EA.out hg9 (by decide)
        have Q19 : Hid (∀ q ∈ es ++ [(⟨.slice oa of.length oc, .slice (some ⟨q8, 0, none⟩) n c8, of, Y⟩ : Qe)], QeK w.heap.size w w9 q) := qek_snoc (fun e he => QK9 e (Q18.out e he)) (QK9 _ ⟨HOZ.out, O8.out⟩)
        have Q29 : Hid (∀ e ∈ es2 ++ [(⟨.slice oa of.length oc, .slice (some ⟨q, 0, none⟩) n n, of, Y⟩ : Qe)], QeK w.heap.size w w9 e) := qek_snoc (fun e he => QK9 e (Q28.out e he)) (QK9 _ ⟨HOZ.out, isown_blk K8.out YL.out hqB.out (by omega)⟩)
        have R9 : Hid (w9.ownsRow w.heap.size 38 1 (.slice a7 (i + 1) c7) (i + 1) ((es2 ++ [(⟨.slice oa of.length oc, .slice (some ⟨q, 0, none⟩) n n, of, Y⟩ : Qe)]).map Qe.vv)) := by
          have h1 := owns_below R8.out (below_alloc w8 (.cells #[.slice oa of.length oc, .slice (some ⟨q8, 0, none⟩) n c8] 43))
          have h2 := owns_kept (w' := w9) h1 fun g hg => by
            obtain ⟨cs, hc⟩ := owns_type' h1 g hg
            exact grown_kindE EA.out hg9 hc (by decide)
          rw [List.map_append]
          exact h2
        have BX9 : Hid (XBox w.heap.size A S (.slice (some ⟨b, off, none⟩) M pc) (.slice (some ⟨b2, off2, none⟩) U uc) w9) := XBox.grown (XBox.below BX8.out (below_alloc _ _)) EA.out hg9 (by decide)
        have II9 : Hid (EqsQ n (i + 1) vs ls xs (es ++ [⟨.slice oa of.length oc, .slice (some ⟨q8, 0, none⟩) n c8, of, Y⟩]) (es2 ++ [⟨.slice oa of.length oc, .slice (some ⟨q, 0, none⟩) n n, of, Y⟩])) := EqsQ.snoc II.out HOV.out HOF.out YL.out
        clear ho9 hg9 QK9 EA XA SA X8 R8 K8 Q18 Q28 BX8 E8 O8 II
        go_wp2
        go_roundw
        case rel => exact ⟨i + 1, a9, c9, a7, c7, _, _, by omega, by go_num, rfl, rfl, E9, R9, Q19, Q29, II9, BX9, X9⟩
        case measure => simp [intOf]; omega
      · have dU : decide ((i : Int) < (U : Int)) = false := decide_eq_false (by omega)
        go_upto_region 9 with fail
        obtain ⟨w5, hw5⟩ : ∃ x, w4 = x := ⟨_, rfl⟩
        obtain ⟨Y, hY⟩ : ∃ Y, zeros n = Y := ⟨_, rfl⟩
        have YL : Hid (Y.length = n) := by unfold Hid; rw [← hY]; exact zeros_length _
        have K5 : Hid (Blk w5 q [] Y []) := by rw [← hY, ← hw5]; exact K4.out
        have X5 : Hid (Below wr.heap.size wr w5) := by rw [← hw5]; exact X4.out
        rw [hw5]
        clear hw5 hY X4 K4 x0 x1 x2 x3 XX4
        have E5 : Hid (OwnE w.heap.size w5 (.slice la i lc) i es) := OwnE.below EE.out X5.out
        have R5 : Hid (w5.ownsRow w.heap.size 38 1 (.slice ua i uc') i (es2.map Qe.vv)) := owns_below RR.out X5.out
        have Q15 : Hid (∀ q ∈ es, QeK w.heap.size w w5 q) := fun q hq => QeK.below (Q1.out q hq) X5.out
        have Q25 : Hid (∀ q ∈ es2, QeK w.heap.size w w5 q) := fun q hq => QeK.below (Q2.out q hq) X5.out
        have BX5 : Hid (XBox w.heap.size A S (.slice (some ⟨b, off, none⟩) M pc) (.slice uo U uc) w5) := XBox.below BX.out X5.out
        have XX5 : Hid (Below w.heap.size w w5) := on_below XX.out X5.out
        clear X5 EE RR Q1 Q2 BX XX Hq
        have R6 : Hid ((w5.alloc (.cells #[.slice (some ⟨q, 0, none⟩) n n] 38)).ownsRow w.heap.size 38 1 (.slice ua i uc') i (es2.map Qe.vv)) := owns_below R5.out (below_alloc _ _)
        have S6 : Hid (w.heap.size ≤ (w5.alloc (.cells #[.slice (some ⟨q, 0, none⟩) n n] 38)).heap.size) := Nat.le_trans XX5.out.size (below_alloc w5 _).size
        go_upto_region 10 with (at_builtin; refine wpList_addS _ rfl (.tmp 34) (.tmp 36) rfl w.heap.size (.slice ua i uc') i _ rfl R6.out _ (.slice (some ⟨q, 0, none⟩) n n) rfl rfl (alloc_one _ _) (by omega) S6.out ?_; intro a7 c7 w7 ho7 hg7 hnc7 hcm7)
        have X7 : Hid (Below w.heap.size w w7) := below_ownR (XX5.out.alloc XX5.out.size _) R6.out (Nat.le_refl _) S6.out hg7
        have R7 : Hid (w7.ownsRow w.heap.size 38 1 (.slice a7 (i + 1) c7) (i + 1) (es2.map Qe.vv ++ [.slice (some ⟨q, 0, none⟩) n n])) := ho7
        have K7 : Hid (Blk w7 q [] Y []) := (K5.out.below (below_alloc _ _)).kept (grown_kindR R6.out hg7 (K5.out.below (below_alloc _ _)) (by decide))
        have Q17 : Hid (∀ q ∈ es, QeK w.heap.size w w7 q) := fun q hq => QeK.grown (QeK.below (Q15.out q hq) (below_alloc _ _)) R6.out hg7 (by decide)
        have Q27 : Hid (∀ q ∈ es2, QeK w.heap.size w w7 q) := fun q hq => QeK.grown (QeK.below (Q25.out q hq) (below_alloc _ _)) R6.out hg7 (by decide)
        have BX7 : Hid (XBox w.heap.size A S (.slice (some ⟨b, off, none⟩) M pc) (.slice uo U uc) w7) := XBox.grown (XBox.below BX5.out (below_alloc _ _)) R6.out hg7 (by decide)
        have E7 : Hid (OwnE w.heap.size w7 (.slice la i lc) i es) := by
          have h1 := OwnE.below E5.out (below_alloc w5 (.cells #[.slice (some ⟨q, 0, none⟩) n n] 38))
          refine OwnE.kept h1 fun g hg => ?_
          obtain ⟨cs, hc⟩ := OwnE.kind h1 hg
          exact grown_kindR R6.out hg7 hc (by decide)
        have BY : Hid (Bs w7 (.slice (some ⟨q, 0, none⟩) n n) Y) := isown_bs (isown_blk (B := 0) K7.out YL.out (Nat.zero_le _) (by omega))
        clear ho7 hg7 E5 R5 Q15 Q25 BX5 XX5 K5 R6 S6
        go_upto_region 11 with (first | (at_builtin; refine wpList_copy w7 rfl (.tmp 40) (.tmp 41) rfl Y _ _ rfl rfl rfl BY.out (by rw [YL.out]; omega) ?_; intro q8 c8 w8 hown8 hb8; rw [YL.out] at hown8 ⊢; have O8 : Hid (IsOwn w.heap.size Y (.slice (some ⟨q8, 0, none⟩) n c8) w8) := (by obtain ⟨q, cap, post, h1, h2, h3⟩ := hown8; exact ⟨q, cap, post, h1, Nat.le_trans X7.out.size h2, h3⟩); have X8 : Hid (Below w.heap.size w w8) := on_below X7.out hb8; have R8 : Hid (w8.ownsRow w.heap.size 38 1 (.slice a7 (i + 1) c7) (i + 1) (es2.map Qe.vv ++ [.slice (some ⟨q, 0, none⟩) n n])) := owns_below R7.out hb8; have K8 : Hid (Blk w8 q [] Y []) := K7.out.below hb8; have Q18 : Hid (∀ q ∈ es, QeK w.heap.size w w8 q) := fun q hq => QeK.below (Q17.out q hq) hb8; have Q28 : Hid (∀ q ∈ es2, QeK w.heap.size w w8 q) := fun q hq => QeK.below (Q27.out q hq) hb8; have BX8 : Hid (XBox w.heap.size A S (.slice (some ⟨b, off, none⟩) M pc) (.slice uo U uc) w8) := XBox.below BX7.out hb8; have E8 : Hid (OwnE w.heap.size w8 (.slice la i lc) i es) := OwnE.below E7.out hb8; clear hown8 hb8 X7 R7 K7 Q17 Q27 BX7 E7 BY; have EA : Hid (OwnE w.heap.size (w8.alloc (.cells #[.slice oa of.length oc, .slice (some ⟨q8, 0, none⟩) n c8] 43)) (.slice la i lc) i es) := OwnE.below E8.out (below_alloc _ _); have XA : Hid (Below w.heap.size w (w8.alloc (.cells #[.slice oa of.length oc, .slice (some ⟨q8, 0, none⟩) n c8] 43))) := X8.out.alloc X8.out.size _; have SA : Hid (w.heap.size ≤ (w8.alloc (.cells #[.slice oa of.length oc, .slice (some ⟨q8, 0, none⟩) n c8] 43)).heap.size) := XA.out.size) | (at_builtin; refine wpList_addE _ rfl (.tmp 38) (.tmp 44) rfl w.heap.size (.slice la i lc) i es rfl EA.out _ 1 [⟨.slice oa of.length oc, .slice (some ⟨q8, 0, none⟩) n c8, of, Y⟩] rfl one_src (by intro u hu; simp [Qe.cells] at hu; rcases hu with rfl | rfl <;> rfl) (by omega) SA.out ?_; intro a9 c9 w9 ho9 hg9))
        have E9 : Hid (OwnE w.heap.size w9 (.slice a9 (i + 1) c9) (i + 1) (es ++ [⟨.slice oa of.length oc, .slice (some ⟨q8, 0, none⟩) n c8, of, Y⟩])) := ho9
        have X9 : Hid (Below w.heap.size w w9) := XA.out.grown hg9 XA.out.size (fun k hk => (OwnE.lt EA.out k hk).1)
        have QK9 : ∀ e : Qe, QeK w.heap.size w w8 e → QeK w.heap.size w w9 e := fun e he => QeK.grown (QeK.below he (below_alloc _ _)) EA.out hg9 (by decide)
        have Q19 : Hid (∀ q ∈ es ++ [(⟨.slice oa of.length oc, .slice (some ⟨q8, 0, none⟩) n c8, of, Y⟩ : Qe)], QeK w.heap.size w w9 q) := qek_snoc (fun e he => QK9 e (Q18.out e he)) (QK9 _ ⟨HOZ.out, O8.out⟩)
        have Q29 : Hid (∀ e ∈ es2 ++ [(⟨.slice oa of.length oc, .slice (some ⟨q, 0, none⟩) n n, of, Y⟩ : Qe)], QeK w.heap.size w w9 e) := qek_snoc (fun e he => QK9 e (Q28.out e he)) (QK9 _ ⟨HOZ.out, isown_blk K8.out YL.out hqB.out (by omega)⟩)
        have R9 : Hid (w9.ownsRow w.heap.size 38 1 (.slice a7 (i + 1) c7) (i + 1) ((es2 ++ [(⟨.slice oa of.length oc, .slice (some ⟨q, 0, none⟩) n n, of, Y⟩ : Qe)]).map Qe.vv)) := by
          have h1 := owns_below R8.out (below_alloc w8 (.cells #[.slice oa of.length oc, .slice (some ⟨q8, 0, none⟩) n c8] 43))
          have h2 := owns_kept (w' := w9) h1 fun g hg => by
            obtain ⟨cs, hc⟩ := owns_type' h1 g hg
            exact grown_kindE EA.out hg9 hc (by decide)
          rw [List.map_append]
          exact h2
        have BX9 : Hid (XBox w.heap.size A S (.slice (some ⟨b, off, none⟩) M pc) (.slice uo U uc) w9) := XBox.grown (XBox.below BX8.out (below_alloc _ _)) EA.out hg9 (by decide)
        have II9 : Hid (EqsQ n (i + 1) vs ls xs (es ++ [⟨.slice oa of.length oc, .slice (some ⟨q8, 0, none⟩) n c8, of, Y⟩]) (es2 ++ [⟨.slice oa of.length oc, .slice (some ⟨q, 0, none⟩) n n, of, Y⟩])) := EqsQ.snoc II.out HOV.out HOF.out YL.out
        clear ho9 hg9 QK9 EA XA SA X8 R8 K8 Q18 Q28 BX8 E8 O8 II
        go_wp2
        go_roundw
        case rel => exact ⟨i + 1, a9, c9, a7, c7, _, _, by omega, by go_num, rfl, rfl, E9, R9, Q19, Q29, II9, BX9, X9⟩
        case measure => simp [intOf]; omega
    · obtain rfl : M = i := by omega
      have L1 : Hid (es.length = M) := II.out.l1
      have L2 : Hid (es2.length = M) := II.out.l2
      clear BX
      go_wp2
      go_ret2
      refine ⟨_, _, es, es2, rfl, ?_, ?_, Q1.out, Q2.out, II.out, XX.out⟩
      · rw [L1.out]; exact EE.out
      · rw [L2.out]; exact RR.out

end Go.Proofs.Ytkckbeekehecnaa
