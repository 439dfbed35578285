/-
  EquationAdds.
-/
import Derived.Test.YtkcijbejngnalaaQK
import Derived.Test.YtkcijbejngnalaaQH
import Derived.RegionTactic
import Derived.Deep.Light
namespace Go.Proofs.Ytkcijbejngnalaa
open Go.RowKit
set_option linter.unusedVariables false

/-- Numbers of one's own, wherever. -/
def IsOwZ (B n : Nat) (l : List Int) : Value → World → Prop := fun v W => ∃ a c, v = .slice a n c ∧ OwnZ B W (.slice a n c) n l
theorem stays_owz (B n : Nat) (l : List Int) : Stays (IsOwZ B n l) := fun _ _ _ hb ⟨a, c, h1, h2⟩ => ⟨a, c, h1, h2.below hb⟩
/-- Slices in a row of one's own, wherever. -/
def IsOwR (B n : Nat) (vs : List Value) : Value → World → Prop := fun v W => ∃ a c, v = .slice a n c ∧ W.ownsRow B 25 1 (.slice a n c) n vs
theorem stays_owr (B n : Nat) (vs : List Value) : Stays (IsOwR B n vs) := fun _ _ _ hb ⟨a, c, h1, h2⟩ => ⟨a, c, h1, owns_below h2 hb⟩
/-- A row of one slice, just laid. -/
def IsR1 (u : Value) : Value → World → Prop := fun v W => ∃ q, v = .slice (some ⟨q, 0, none⟩) 1 1 ∧ W.heap[q]? = some (.cells #[u] 25 (0, 0))
theorem stays_r1 (u : Value) : Stays (IsR1 u) := fun _ _ _ hb ⟨q, h1, h2⟩ => ⟨q, h1, (hb.block q (Array.getElem?_eq_some_iff.1 h2).1).trans h2⟩
theorem IsR1.sl {u v : Value} {W : World} (h : IsR1 u v W) : Sl 1 W v 1 [u] := by
  obtain ⟨q, rfl, hq⟩ := h
  refine ⟨rfl, _, _, rfl, Nat.le_refl _, by simp [maxLen], fun h => by simp at h, .inr ⟨_, _, rfl, fun j x hj => ?_⟩⟩
  have : j = 0 := by have := (List.getElem?_eq_some_iff.1 hj).1; simp at this; omega
  subst this
  simp at hj
  subst hj
  simp [World.cell?, hq]
theorem grown_kindR {B n : Nat} {w w' : World} {v : Value} {vs : List Value} (ho : w.ownsRow B 25 1 v n vs) (hg : w.grownBy w' v.ownBlock) {q : Nat} {cs : Array Value} {t : TypeId} {fr : Nat × Nat} (hq : w.heap[q]? = some (.cells cs t fr)) (ht : t ≠ 25) : w'.heap[q]? = w.heap[q]? := by
  have hlt : q < w.heap.size := (Array.getElem?_eq_some_iff.1 hq).1
  refine hg.block q hlt (fun e => ?_)
  obtain ⟨c1, e1⟩ := owns_type' ho q e.symm
  rw [e1] at hq
  injection hq with hq
  injection hq with _ h2 _
  exact ht h2.symm
theorem OwnZ.grownR {B B1 n m : Nat} {w w' : World} {v u : Value} {vs : List Value} {l : List Int} (h : OwnZ B1 w u m l) (ho : w.ownsRow B 25 1 v n vs) (hg : w.grownBy w' v.ownBlock) : OwnZ B1 w' u m l := by
  refine h.kept fun q hq => ?_
  obtain ⟨c, e⟩ := owns_type' h q hq
  exact grown_kindR ho hg e (by decide)
theorem step_addS (w : World) {ops : Array Oper} {o : Oper} {a : Act} {K : Act → World → Prop} {Q : Exit → Act → World → Prop} {E : Prop} (hgd : o.guard = none) (s x : Operand)
    (ho : o.op = .call { callee := .builtin .append, args := #[s, x], argTypes := #[32, 32] })
    (B : Nat) (v : Value) (n : Nat) (vs : List Value) (hs : a.eval s = v) (hown : w.ownsRow B 25 1 v n vs)
    (xv : Value) (u : Value) (hu : u.oneCell' = true) (hx : a.eval x = xv) (hsrc : Sl 1 w xv 1 [u])
    (hlen : n + 1 ≤ 1000000000) (hbase : B ≤ w.heap.size)
    (h : ∀ ao cap w', w'.ownsRow B 25 1 (.slice ao (n + 1) cap) (n + 1) (vs ++ [u]) → w.grownBy w' v.ownBlock → K (a.put o.dst (.slice ao (n + 1) cap)) w') :
    if Region.wanted o (yielded ops a.tmps) = true then Oper.wp Try.prog o a w K Q else E := by
  obtain ⟨i, hi, hz, h1, h8⟩ := infoBs_parts
  refine step_app w hgd s x 32 ho B 25 i (.slice none 0 0) 1 24 Try.underlying32 hi hz h1 h8 rfl (by decide) v n _ hs hown xv 1 _ hx hsrc (by intro y hy; simp at hy; subst hy; exact hu) (by unfold maxLen; omega) (by omega) hbase ?_
  intro ao cap w' h2 h3 h4 h5 h6 h7
  exact h ao cap w' h2 h3
theorem EqX.grownR {B n : Nat} {w w' : World} {v : Value} {vs : List Value} {b : Nat} {ov vv : Value} (h : EqX w b ov vv) (ho : w.ownsRow B 25 1 v n vs) (hg : w.grownBy w' v.ownBlock) : EqX w' b ov vv := h.kept (grown_kindR ho hg h (by decide))

def IsZl (l : List Int) : Value → World → Prop := fun v W => Zs W v l
theorem stays_zl (l : List Int) : Stays (IsZl l) := fun _ _ _ hb h => Zs.below h hb
theorem r1_grownZ {B n : Nat} {w w' : World} {v x u : Value} {l : List Int} (h : IsR1 u x w) (ho : OwnZ B w v n l) (hg : w.grownBy w' v.ownBlock) : IsR1 u x w' := by
  obtain ⟨q, h1, h2⟩ := h
  exact ⟨q, h1, (grown_kindZ ho hg h2 (by decide)).trans h2⟩
theorem owz_grownR {B B1 n m : Nat} {w w' : World} {v x : Value} {vs : List Value} {l : List Int} (h : IsOwZ B1 m l x w) (ho : w.ownsRow B 25 1 v n vs) (hg : w.grownBy w' v.ownBlock) : IsOwZ B1 m l x w' := by
  obtain ⟨a, c, h1, h2⟩ := h
  exact ⟨a, c, h1, h2.grownR ho hg⟩

set_option maxRecDepth 100000 in
set_option maxHeartbeats 4000000 in
theorem equationAdds_walk (size : Int) (pv : Value) (es : List Qe) (w : World) (hp : Qs w pv es) (hq : ∀ e ∈ es, QeW e) :
    Calls Try.prog 4 #[.int .i64 size, pv] w fun e w' => e = .returned (.bool true) ∧ Below w.heap.size w w' := by
  have HP : Hid (Qs w pv es) := hp
  have HQ : Hid (∀ e ∈ es, QeW e) := hq
  obtain ⟨ao, pc, rfl, hp2, hp3⟩ := hp.shape
  obtain ⟨N, hN⟩ : ∃ N, es.length = N := ⟨_, rfl⟩
  have HN : Hid (es.length = N) := hN
  rw [hN] at hp2 HP ⊢
  clear hN hp hq
  go_enter Try.func4, Try.ntmps4
  go_wp2_with fail
  refine (speaks15_any _).mono ?_
  rintro e w1 ⟨rfl, hb⟩
  have B1 : Hid (Below w.heap.size w w1) := hb
  clear hb
  go_wp2_with fail
  refine (big15_any _ es w1 (HP.out.below B1.out) HQ.out).mono ?_
  rintro e w2 ⟨⟨b, rfl, hbig⟩, hb⟩
  have B2 : Hid (Below w.heap.size w w2) := on_below B1.out hb
  have HB : Hid (b = false → (ofsQ es).length + es.length ≤ 300 ∧ ∀ e ∈ es, e.va.length ≤ 60) := hbig
  clear hb hbig B1
  cases b with
  | true =>
    clear HB
    go_wp2
    go_ret
    exact ⟨rfl, B2.out⟩
  | false =>
    have HL : Hid ((ofsQ es).length + es.length ≤ 300 ∧ ∀ e ∈ es, e.va.length ≤ 60) := HB.out rfl
    clear HB
    by_cases hs60 : 60 < size
    · go_wp2
      go_ret
      exact ⟨rfl, B2.out⟩
    have d60 : decide (60 < size) = false := decide_eq_false hs60
    have hNle : N ≤ 300 := by have := HL.out.1; have := HN.out; omega
    have HF : Hid (∀ i, (ofsQ (es.take i)).length ≤ 300) := fun i => by have := ofsQ_le es i; have := HL.out.1; omega
    go_wp2
    go_loopw [5, 6, 22] (fun ov rv iv wr => ∃ (i : Nat) (a a' : Option Addr) (m c c' : Nat), i ≤ N ∧ iv = .int .i64 i ∧ ov = .slice a m c ∧ rv = .slice a' i c' ∧ Hid (OwnZ w.heap.size wr (.slice a m c) m (ofsQ (es.take i))) ∧ Hid (wr.ownsRow w.heap.size 25 1 (.slice a' i c') i ((es.take i).map Qe.vv)) ∧ Hid (Below w.heap.size w wr)) (fun _ _ iv _ => N - (intOf iv).toNat)
    case atStart => exact ⟨0, none, none, 0, 0, 0, by omega, rfl, rfl, rfl, OwnZ.nil _ _, ⟨rfl, .inl ⟨rfl, rfl⟩⟩, B2⟩
    case round =>
      clear B2
      obtain ⟨i, a, a', m, c, c', hi, rfl, rfl, rfl, OO, RR, BB⟩ := hrel
      by_cases hlt : i < N
      · obtain ⟨e, he⟩ : ∃ e, es[i]? = some e := ⟨_, List.getElem?_eq_getElem (by rw [HN.out]; exact hlt)⟩
        have HPn : Qs w (.slice ao N pc) es := HP.out
        obtain ⟨b, off, rfl, c0, c1⟩ := Qs.at HPn BB.out he
        obtain ⟨hez, heb⟩ := Qs.get HPn BB.out he
        obtain ⟨oa, oc, eo, -, -⟩ := zs_shape hez
        obtain ⟨va, vc, ev, -, -⟩ := bs_shape heb
        have HZ : Hid (Zs wr (.slice oa e.of.length oc) e.of) := by rw [← eo]; exact hez
        rw [eo] at c0
        rw [ev] at c1
        have hmi : m + e.of.length ≤ 300 := by
          have h1 := OO.out.len
          have h2 := HF.out (i + 1)
          rw [ofsQ_next he, List.length_append] at h2
          omega
        have NX : Hid (ofsQ (es.take (i + 1)) = ofsQ (es.take i) ++ e.of) := ofsQ_next he
        have VX : Hid ((es.take (i + 1)).map Qe.vv = (es.take i).map Qe.vv ++ [.slice va e.va.length vc]) := by
          obtain ⟨hie, e1⟩ := List.getElem?_eq_some_iff.1 he
          unfold Hid
          rw [List.take_succ_eq_append_getElem hie, List.map_append, e1, ← ev]
          rfl
        clear he HPn hez heb eo ev
        generalize e.va.length = kv at *
        obtain ⟨eof, heof⟩ : ∃ x, e.of = x := ⟨_, rfl⟩
        rw [heof] at HZ c0 hmi NX
        obtain ⟨ko, hko⟩ : ∃ x, eof.length = x := ⟨_, rfl⟩
        have HZ2 : Hid (Sl 1 wr (.slice oa ko oc) ko (eof.map (Value.int .i64))) := by
          have h := HZ.out
          unfold Zs at h
          rw [hko] at h
          exact h
        rw [hko] at c0 hmi
        clear heof hko HZ
        go_upto_region 10 with fail
        obtain ⟨w3, hw3⟩ : ∃ x, wr.alloc (.cells #[.slice oa ko oc, .slice va kv vc] 41) = x := ⟨_, rfl⟩
        have X3 : Hid (Below wr.heap.size wr w3) := by rw [← hw3]; exact below_alloc _ _
        have F3 : Hid (EqX w3 wr.heap.size (.slice oa ko oc) (.slice va kv vc)) := by rw [← hw3]; exact EqX.new _ _ _
        have SB : Hid (w.heap.size ≤ wr.heap.size) := BB.out.size
        rw [hw3]
        clear hw3
        have O3 : Hid (OwnZ w.heap.size w3 (.slice a m c) m (ofsQ (es.take i))) := OO.out.below X3.out
        have R3 : Hid (w3.ownsRow w.heap.size 25 1 (.slice a' i c') i ((es.take i).map Qe.vv)) := owns_below RR.out X3.out
        have B3 : Hid (Below w.heap.size w w3) := on_below BB.out X3.out
        have Z3 : Hid (Sl 1 w3 (.slice oa ko oc) ko (eof.map (Value.int .i64))) := HZ2.out.below X3.out
        obtain ⟨wb, hwb⟩ : ∃ x, wr.heap.size = x := ⟨_, rfl⟩
        rw [hwb] at F3 SB ⊢
        clear OO RR BB HZ2 X3 c0 c1 hwb
        refine wp_region_any (by kernel_rfl) ?_
        obtain ⟨gs, hgs⟩ : ∃ gs : List (Value → World → Prop), gs = [IsV (Value.slice a m c), IsV (.pointer (some ⟨wb, 0, none⟩)), IsV (.slice oa ko oc), IsAnyV, IsV (Value.slice a' i c'), IsV (.pointer (some ⟨wb, 1, none⟩)), IsV (.slice va kv vc), IsAnyV, IsAnyV, IsAnyV, IsAnyV] := ⟨_, rfl⟩
        have g0 : Hid (gs[0]? = some (IsV (Value.slice a m c))) := by unfold Hid; rw [hgs]; rfl
        have g1 : Hid (gs[1]? = some (IsV (.pointer (some ⟨wb, 0, none⟩)))) := by unfold Hid; rw [hgs]; rfl
        have g2 : Hid (gs[2]? = some (IsV (.slice oa ko oc))) := by unfold Hid; rw [hgs]; rfl
        have g3 : Hid (gs[3]? = some (IsAnyV)) := by unfold Hid; rw [hgs]; rfl
        have g4 : Hid (gs[4]? = some (IsV (Value.slice a' i c'))) := by unfold Hid; rw [hgs]; rfl
        have g5 : Hid (gs[5]? = some (IsV (.pointer (some ⟨wb, 1, none⟩)))) := by unfold Hid; rw [hgs]; rfl
        have g6 : Hid (gs[6]? = some (IsV (.slice va kv vc))) := by unfold Hid; rw [hgs]; rfl
        have g7 : Hid (gs[7]? = some (IsAnyV)) := by unfold Hid; rw [hgs]; rfl
        have g8 : Hid (gs[8]? = some (IsAnyV)) := by unfold Hid; rw [hgs]; rfl
        have g9 : Hid (gs[9]? = some (IsAnyV)) := by unfold Hid; rw [hgs]; rfl
        have g10 : Hid (gs[10]? = some (IsAnyV)) := by unfold Hid; rw [hgs]; rfl
        have gk : Hid (∀ p ∈ gs, ∀ v (U U' : World), p v U → p v U') := by
          unfold Hid
          rw [hgs]
          simp only [List.forall_mem_cons]
          exact ⟨(fun _ _ _ h => h), (fun _ _ _ h => h), (fun _ _ _ h => h), (fun _ _ _ h => h), (fun _ _ _ h => h), (fun _ _ _ h => h), (fun _ _ _ h => h), (fun _ _ _ h => h), (fun _ _ _ h => h), (fun _ _ _ h => h), (fun _ _ _ h => h), by simp⟩
        clear hgs
        have JS : Hid (∀ W W', Below W.heap.size W W' → (fun W => Below w.heap.size w W) W → (fun W => Below w.heap.size w W) W') := fun W W' hb h => h.trans (hb.mono h.size)
        have st3 : Hid (Stays (IsOwZ w.heap.size (m + ko) (ofsQ (es.take (i + 1))))) := stays_owz _ _ _
        have st7 : Hid (Stays (IsR1 (.slice va kv vc))) := stays_r1 _
        have st8 : Hid (Stays (IsOwR w.heap.size (i + 1) ((es.take (i + 1)).map Qe.vv))) := stays_owr _ _ _
        have st9 : Hid (Stays (IsOwZ w.heap.size (m + ko) (ofsQ (es.take (i + 1))))) := stays_owz _ _ _
        have st10 : Hid (Stays (IsOwR w.heap.size (i + 1) ((es.take (i + 1)).map Qe.vv))) := stays_owr _ _ _
        have su3 : Hid (∀ W W', Below W.heap.size W W' → (fun W => OwnZ w.heap.size W (.slice a m c) m (ofsQ (es.take i)) ∧ Sl 1 W (.slice oa ko oc) ko (eof.map (Value.int .i64))) W → (fun W => OwnZ w.heap.size W (.slice a m c) m (ofsQ (es.take i)) ∧ Sl 1 W (.slice oa ko oc) ko (eof.map (Value.int .i64))) W') := fun W W' hb h => ⟨h.1.below hb, h.2.below hb⟩
        have su8 : Hid (∀ W W', Below W.heap.size W W' → (fun W => W.ownsRow w.heap.size 25 1 (.slice a' i c') i ((es.take i).map Qe.vv) ∧ EqX W wb (.slice oa ko oc) (.slice va kv vc)) W → (fun W => W.ownsRow w.heap.size 25 1 (.slice a' i c') i ((es.take i).map Qe.vv) ∧ EqX W wb (.slice oa ko oc) (.slice va kv vc)) W') := fun W W' hb h => ⟨owns_below h.1 hb, h.2.below hb⟩
        refine wpAny_inv4 (fun listed ac W => ∃ xv : Nat → Value, ac = ⟨#[Value.int IntKind.i64 size, Value.slice (some { block := b, off := off }) N pc, undef, undef, Value.bool false, xv 9, xv 10, undef, Value.pointer (some { block := wb, off := 0 }), undef, undef, undef, Value.bool true, Value.bool false, Value.slice (some { block := b, off := off }) N pc, Value.bool false, Value.bool false, Value.int IntKind.i64 size, Value.bool false, Value.bool false, Value.slice (some { block := b, off := off }) N pc, Value.int IntKind.i64 ↑N, Value.int IntKind.i64 ↑i, Value.bool true, Value.pointer (some { block := b, off := off + i * 2 }), Value.agg #[Value.slice oa ko oc, Value.slice va kv vc], xv 0, xv 1, xv 2, xv 3, xv 4, xv 5, xv 6, xv 7, xv 8, u35, undef, undef, undef, undef, undef, undef, undef, undef, undef, undef, undef, undef, undef, undef, undef, undef, undef, undef, undef, undef, undef, undef, undef, undef, undef, undef, undef, undef, undef, undef, undef, undef, undef, undef, undef, undef, undef, undef, undef, undef, undef, undef, undef, undef, undef, undef, undef, undef, undef, undef, undef], []⟩ ∧ (fun W => Below w.heap.size w W) W ∧ Lst gs listed xv W ∧ Fe listed xv W 3 (IsOwZ w.heap.size (m + ko) (ofsQ (es.take (i + 1)))) ∧ Fd listed xv W 7 8 (IsR1 (.slice va kv vc)) ∧ Fe listed xv W 8 (IsOwR w.heap.size (i + 1) ((es.take (i + 1)).map Qe.vv)) ∧ Fe listed xv W 9 (IsOwZ w.heap.size (m + ko) (ofsQ (es.take (i + 1)))) ∧ Fe listed xv W 10 (IsOwR w.heap.size (i + 1) ((es.take (i + 1)).map Qe.vv)) ∧ Fz listed W 3 (fun W => OwnZ w.heap.size W (.slice a m c) m (ofsQ (es.take i)) ∧ Sl 1 W (.slice oa ko oc) ko (eof.map (Value.int .i64))) ∧ Fz listed W 8 (fun W => W.ownsRow w.heap.size 25 1 (.slice a' i c') i ((es.take i).map Qe.vv) ∧ EqX W wb (.slice oa ko oc) (.slice va kv vc)) ∧ Ini4 listed xv 9 (Value.slice a m c) ∧ Ini4 listed xv 10 (Value.slice a' i c')) (by kernel_rfl) ?_ ?_ _ _ _ _ (by kernel_rfl) (of_decide_eq_true (by kernel_rfl)) (Down.start _) ⟨fun jx => if jx = 0 then u26 else if jx = 1 then u27 else if jx = 2 then u28 else if jx = 3 then u29 else if jx = 4 then u30 else if jx = 5 then u31 else if jx = 6 then u32 else if jx = 7 then u33 else if jx = 8 then u34 else if jx = 9 then Value.slice a m c else if jx = 10 then Value.slice a' i c' else undef, rfl, B3.out.drew, Lst.start _ _ _ _, Fe.start _ _ _ _ _, Fd.start _ _ _ _ _ _, Fe.start _ _ _ _ _, Fe.start _ _ _ _ _, Fe.start _ _ _ _ _, Fz.start (⟨O3.out.below (below0 _), Z3.out.below (below0 _)⟩), Fz.start (⟨owns_below R3.out (below0 _), F3.out.below (below0 _)⟩), (fun _ => rfl), (fun _ => rfl)⟩
        · go_light
          rintro listed ac W ⟨xv, rfl, hb, hG, hF3, hF7, hF8, hF9, hF10, hU3, hU8, hI9, hI10⟩ hD i hi hnl hd
          have hin : i < 11 := hi
          clear hi
          have hcase : i = 0 ∨ i = 1 ∨ i = 2 ∨ i = 3 ∨ i = 4 ∨ i = 5 ∨ i = 6 ∨ i = 7 ∨ i = 8 ∨ i = 9 ∨ i = 10 := by omega
          rcases hcase with rfl | rfl | rfl | rfl | rfl | rfl | rfl | rfl | rfl | rfl | rfl
          · refine wpOp_step rfl (fun K' hK => ?_)
            have f9 : listed.getD 9 false = false := by
              cases hx : listed.getD 9 false with
              | false => rfl
              | true =>
                have r0 : listed.getD 0 false = true := by have h := hD 9 (by decide) hx; simp [Region.binds] at h; simp [h]
                rw [getD_false hnl] at r0; cases r0
            have ei9 : xv 9 = Value.slice a m c := hI9 f9
            clear hd hin hD
            go_simp
            exact hK _ _ ⟨updV xv 0 (Value.slice a m c), by simp [updV, ei9], hb, hG.any gk.out g0.out _ rfl, hF3.step (fun _ h => h) (by decide) _, hF7.step (fun _ h => h) (by decide) (by decide) _, hF8.step (fun _ h => h) (by decide) _, hF9.step (fun _ h => h) (by decide) _, hF10.step (fun _ h => h) (by decide) _, hU3.step (fun h => h) (by decide), hU8.step (fun h => h) (by decide), hI9.skip (by decide), hI10.skip (by decide)⟩
          · refine wpOp_step rfl (fun K' hK => ?_)
            clear hd hin hD
            go_simp
            exact hK _ _ ⟨updV xv 1 (.pointer (some ⟨wb, 0, none⟩)), by simp [updV], hb, hG.any gk.out g1.out _ rfl, hF3.step (fun _ h => h) (by decide) _, hF7.step (fun _ h => h) (by decide) (by decide) _, hF8.step (fun _ h => h) (by decide) _, hF9.step (fun _ h => h) (by decide) _, hF10.step (fun _ h => h) (by decide) _, hU3.step (fun h => h) (by decide), hU8.step (fun h => h) (by decide), hI9.skip (by decide), hI10.skip (by decide)⟩
          · refine wpOp_step rfl (fun K' hK => ?_)
            simp [Region.binds] at hd
            have e1 : xv 1 = .pointer (some ⟨wb, 0, none⟩) := hG.get g1.out (by simp [hd])
            have f8 : listed.getD 8 false = false := by
              cases hx : listed.getD 8 false with
              | false => rfl
              | true =>
                have r3 : listed.getD 3 false = true := by have h := hD 8 (by decide) hx; simp [Region.binds] at h; simp [h]
                have r2 : listed.getD 2 false = true := by have h := hD 3 (by decide) r3; simp [Region.binds] at h; simp [h]
                rw [getD_false hnl] at r2; cases r2
            have us8 := hU8 f8
            have hc := us8.2.eqb.1
            clear hd hin hD
            go_simp
            exact hK _ _ ⟨updV xv 2 (.slice oa ko oc), by simp [updV, e1], hb, hG.any gk.out g2.out _ rfl, hF3.step (fun _ h => h) (by decide) _, hF7.step (fun _ h => h) (by decide) (by decide) _, hF8.step (fun _ h => h) (by decide) _, hF9.step (fun _ h => h) (by decide) _, hF10.step (fun _ h => h) (by decide) _, hU3.step (fun h => h) (by decide), hU8.step (fun h => h) (by decide), hI9.skip (by decide), hI10.skip (by decide)⟩
          · refine wpOp_step rfl (fun K' hK => ?_)
            simp [Region.binds] at hd
            have e0 : xv 0 = Value.slice a m c := hG.get g0.out (by simp [hd])
            have e2 : xv 2 = .slice oa ko oc := hG.get g2.out (by simp [hd])
            have f8 : listed.getD 8 false = false := by
              cases hx : listed.getD 8 false with
              | false => rfl
              | true =>
                have r3 : listed.getD 3 false = true := by have h := hD 8 (by decide) hx; simp [Region.binds] at h; simp [h]
                rw [getD_false hnl] at r3; cases r3
            have f9 : listed.getD 9 false = false := by
              cases hx : listed.getD 9 false with
              | false => rfl
              | true =>
                have r3 : listed.getD 3 false = true := by have h := hD 9 (by decide) hx; simp [Region.binds] at h; simp [h]
                rw [getD_false hnl] at r3; cases r3
            have f10 : listed.getD 10 false = false := by
              cases hx : listed.getD 10 false with
              | false => rfl
              | true =>
                have r3 : listed.getD 3 false = true := by have h := hD 10 (by decide) hx; simp [Region.binds] at h; simp [h]
                rw [getD_false hnl] at r3; cases r3
            have us3 := hU3.get hnl
            have f8 : listed.getD 8 false = false := by
              cases hx : listed.getD 8 false with
              | false => rfl
              | true =>
                have r3 : listed.getD 3 false = true := by have h := hD 8 (by decide) hx; simp [Region.binds] at h; simp [h]
                rw [getD_false hnl] at r3; cases r3
            have us8 := hU8 f8
            clear hd hin hD
            refine step_addZ W rfl (.tmp 26) (.tmp 28) rfl w.heap.size (.slice a m c) m (ofsQ (es.take i)) e0 us3.1 _ ko eof e2 us3.2 (by omega) hb.size ?_
            intro oo cap w' hown hg hat hnc hcm
            exact hK _ _ ⟨updV xv 3 (.slice oo (m + ko) cap), by simp [updV, Act.put], hb.grown hg hb.size (fun k hk => (us3.1.lt k hk).1), hG.any gk.out g3.out _ trivial, Fe.new (⟨oo, cap, rfl, by rw [NX.out]; exact hown⟩), hF7.step (fun _ h => r1_grownZ h us3.1 hg) (by decide) (by decide) _, Fe.yet f8 (by decide) _, Fe.yet f9 (by decide) _, Fe.yet f10 (by decide) _, Fz.off hnl, hU8.step (fun h => ⟨row_grownZ h.1 us3.1 hg, h.2.grownZ us3.1 hg⟩) (by decide), hI9.skip (by decide), hI10.skip (by decide)⟩
          · refine wpOp_step rfl (fun K' hK => ?_)
            have f10 : listed.getD 10 false = false := by
              cases hx : listed.getD 10 false with
              | false => rfl
              | true =>
                have r4 : listed.getD 4 false = true := by have h := hD 10 (by decide) hx; simp [Region.binds] at h; simp [h]
                rw [getD_false hnl] at r4; cases r4
            have ei10 : xv 10 = Value.slice a' i c' := hI10 f10
            clear hd hin hD
            go_simp
            exact hK _ _ ⟨updV xv 4 (Value.slice a' i c'), by simp [updV, ei10], hb, hG.any gk.out g4.out _ rfl, hF3.step (fun _ h => h) (by decide) _, hF7.step (fun _ h => h) (by decide) (by decide) _, hF8.step (fun _ h => h) (by decide) _, hF9.step (fun _ h => h) (by decide) _, hF10.step (fun _ h => h) (by decide) _, hU3.step (fun h => h) (by decide), hU8.step (fun h => h) (by decide), hI9.skip (by decide), hI10.skip (by decide)⟩
          · refine wpOp_step rfl (fun K' hK => ?_)
            clear hd hin hD
            go_simp
            exact hK _ _ ⟨updV xv 5 (.pointer (some ⟨wb, 1, none⟩)), by simp [updV], hb, hG.any gk.out g5.out _ rfl, hF3.step (fun _ h => h) (by decide) _, hF7.step (fun _ h => h) (by decide) (by decide) _, hF8.step (fun _ h => h) (by decide) _, hF9.step (fun _ h => h) (by decide) _, hF10.step (fun _ h => h) (by decide) _, hU3.step (fun h => h) (by decide), hU8.step (fun h => h) (by decide), hI9.skip (by decide), hI10.skip (by decide)⟩
          · refine wpOp_step rfl (fun K' hK => ?_)
            simp [Region.binds] at hd
            have e5 : xv 5 = .pointer (some ⟨wb, 1, none⟩) := hG.get g5.out (by simp [hd])
            have f8 : listed.getD 8 false = false := by
              cases hx : listed.getD 8 false with
              | false => rfl
              | true =>
                have r7 : listed.getD 7 false = true := by have h := hD 8 (by decide) hx; simp [Region.binds] at h; simp [h]
                have r6 : listed.getD 6 false = true := by have h := hD 7 (by decide) r7; simp [Region.binds] at h; simp [h]
                rw [getD_false hnl] at r6; cases r6
            have us8 := hU8 f8
            have hc := us8.2.eqb.2
            clear hd hin hD
            go_simp
            exact hK _ _ ⟨updV xv 6 (.slice va kv vc), by simp [updV, e5], hb, hG.any gk.out g6.out _ rfl, hF3.step (fun _ h => h) (by decide) _, hF7.step (fun _ h => h) (by decide) (by decide) _, hF8.step (fun _ h => h) (by decide) _, hF9.step (fun _ h => h) (by decide) _, hF10.step (fun _ h => h) (by decide) _, hU3.step (fun h => h) (by decide), hU8.step (fun h => h) (by decide), hI9.skip (by decide), hI10.skip (by decide)⟩
          · refine wpOp_step rfl (fun K' hK => ?_)
            simp [Region.binds] at hd
            have e6 : xv 6 = .slice va kv vc := hG.get g6.out (by simp [hd])
            clear hd hin hD
            go_simp
            exact hK _ _ ⟨updV xv 7 (.slice (some ⟨W.heap.size, 0, none⟩) 1 1), by simp [updV, e6], JS.out _ _ (below_alloc _ _) hb, hG.any gk.out g7.out _ trivial, hF3.on st3.out (below_alloc _ _) (by decide) _, Fd.new (⟨_, rfl, alloc_at _ _⟩), hF8.on st8.out (below_alloc _ _) (by decide) _, hF9.on st9.out (below_alloc _ _) (by decide) _, hF10.on st10.out (below_alloc _ _) (by decide) _, hU3.step (su3.out _ _ (below_alloc _ _)) (by decide), hU8.step (su8.out _ _ (below_alloc _ _)) (by decide), hI9.skip (by decide), hI10.skip (by decide)⟩
          · refine wpOp_step rfl (fun K' hK => ?_)
            simp [Region.binds] at hd
            have e4 : xv 4 = Value.slice a' i c' := hG.get g4.out (by simp [hd])
            have l7 : listed.getD 7 false = true := by simp [hd]
            have m7 := hF7.get l7 hnl
            have q3 : listed.getD 3 false = true := by simp [hd]
            have f9 : listed.getD 9 false = false := by
              cases hx : listed.getD 9 false with
              | false => rfl
              | true =>
                have r8 : listed.getD 8 false = true := by have h := hD 9 (by decide) hx; simp [Region.binds] at h; simp [h]
                rw [getD_false hnl] at r8; cases r8
            have f10 : listed.getD 10 false = false := by
              cases hx : listed.getD 10 false with
              | false => rfl
              | true =>
                have r8 : listed.getD 8 false = true := by have h := hD 10 (by decide) hx; simp [Region.binds] at h; simp [h]
                rw [getD_false hnl] at r8; cases r8
            have us8 := hU8.get hnl
            clear hd hin hD
            refine step_addS W rfl (.tmp 30) (.tmp 33) rfl w.heap.size (.slice a' i c') i _ e4 us8.1 _ (.slice va kv vc) rfl rfl m7.sl (by omega) hb.size ?_
            intro oo cap w' hown hg
            exact hK _ _ ⟨updV xv 8 (.slice oo (i + 1) cap), by simp [updV, Act.put], hb.grown hg hb.size (fun k hk => (World.ownsRow.lt us8.1 k hk).1), hG.any gk.out g8.out _ trivial, hF3.step (fun _ h => owz_grownR h us8.1 hg) (by decide) _, Fd.off hnl, Fe.new (⟨oo, cap, rfl, by rw [VX.out]; exact hown⟩), Fe.yet f9 (by decide) _, Fe.yet f10 (by decide) _, Fz.gone q3 (by decide), Fz.off hnl, hI9.skip (by decide), hI10.skip (by decide)⟩
          · refine wpOp_step rfl (fun K' hK => ?_)
            simp [Region.binds] at hd
            have l3 : listed.getD 3 false = true := by simp [hd]
            have m3 := hF3 l3
            clear hd hin hD
            go_simp
            exact hK _ _ ⟨updV xv 9 (xv 3), by simp [updV], hb, hG.any gk.out g9.out _ trivial, hF3.step (fun _ h => h) (by decide) _, hF7.step (fun _ h => h) (by decide) (by decide) _, hF8.step (fun _ h => h) (by decide) _, Fe.new (m3), hF10.step (fun _ h => h) (by decide) _, hU3.step (fun h => h) (by decide), hU8.step (fun h => h) (by decide), Ini4.done hnl, hI10.skip (by decide)⟩
          · refine wpOp_step rfl (fun K' hK => ?_)
            simp [Region.binds] at hd
            have l8 : listed.getD 8 false = true := by simp [hd]
            have m8 := hF8 l8
            clear hd hin hD
            go_simp
            exact hK _ _ ⟨updV xv 10 (xv 8), by simp [updV], hb, hG.any gk.out g10.out _ trivial, hF3.step (fun _ h => h) (by decide) _, hF7.step (fun _ h => h) (by decide) (by decide) _, hF8.step (fun _ h => h) (by decide) _, hF9.step (fun _ h => h) (by decide) _, Fe.new (m8), hU3.step (fun h => h) (by decide), hU8.step (fun h => h) (by decide), hI9.skip (by decide), Ini4.done hnl⟩
        · rintro listed ac W ⟨xv, rfl, hb, hG, hF3, hF7, hF8, hF9, hF10, hU3, hU8, hI9, hI10⟩ hall
          have m9 : Hid ((IsOwZ w.heap.size (m + ko) (ofsQ (es.take (i + 1)))) (xv 9) W) := hF9 (hall 9 (by decide))
          have m10 : Hid ((IsOwR w.heap.size (i + 1) ((es.take (i + 1)).map Qe.vv)) (xv 10) W) := hF10 (hall 10 (by decide))
          have XW : Hid ((fun W => Below w.heap.size w W) W) := hb
          clear hall hG hb gk JS g0 g1 g2 g3 g4 g5 g6 g7 g8 g9 g10 hF3 st3 hF7 st7 hF8 st8 hF9 st9 hF10 st10 hU3 su3 hU8 su8 hI9 hI10
          obtain ⟨a9, k9, e9, hO9⟩ := m9.out
          obtain ⟨a10, k10, e10, hR10⟩ := m10.out
          rw [e9, e10]
          have B9 : Hid (Below w.heap.size w W) := XW.out
          have O9 : Hid (OwnZ w.heap.size W (.slice a9 (m + ko) k9) (m + ko) (ofsQ (es.take (i + 1)))) := hO9
          have R9 : Hid (W.ownsRow w.heap.size 25 1 (.slice a10 (i + 1) k10) (i + 1) ((es.take (i + 1)).map Qe.vv)) := hR10
          clear m9 m10 hO9 hR10 XW O3 R3 B3 Z3 F3 NX VX
          go_wp2
          go_roundw
          case rel => exact ⟨i + 1, a9, a10, m + ko, k9, k10, by omega, by go_num, rfl, rfl, O9, R9, B9⟩
          case measure => simp [intOf]; omega
      · obtain rfl : N = i := by omega
        have eN : es.take N = es := List.take_of_length_le (by rw [HN.out]; exact Nat.le_refl _)
        have OF : Hid (OwnZ w.heap.size wr (.slice a m c) m (ofsQ es)) := by have := OO.out; rw [eN] at this; exact this
        have SL : Hid (Sl 1 wr (.slice a' N c') (es.map Qe.vv).length (es.map Qe.vv)) := by
          have h1 := owned_sl RR.out
          rw [eN] at h1
          have h3 : (es.map Qe.vv).length = N := by rw [List.length_map, HN.out]
          rw [h3]
          exact h1
        have SP : Hid (Parts wr (es.map Qe.vv) (vasQ es)) := (qs_parts HP.out.2).below BB.out
        have AI : AddOk size es ↔ (decide (0 ≤ size) && fitB size.toNat (vasQ es)) = true := by
          unfold AddOk
          rw [Bool.and_eq_true, decide_eq_true_eq]
          exact ⟨fun h => ⟨h.1, h.2.2⟩, fun h => ⟨h.1, by omega, h.2⟩⟩
        have AH : Hid (AddOk size es ↔ (decide (0 ≤ size) && fitB size.toNat (vasQ es)) = true) := AI
        obtain ⟨w4, hw4⟩ : ∃ x, x = wr := ⟨_, rfl⟩
        subst hw4
        clear OO RR eN AI
        go_wp2_with fail
        refine (qadd_any size _ es w4 (HP.out.below BB.out) (by have := HL.out.1; omega) (by rw [HN.out]; omega)).mono ?_
        rintro e w5 ⟨h1, hb⟩
        have X5 : Hid (Below w4.heap.size w4 w5) := hb
        have RF : Hid (∀ W, Below w5.heap.size w5 W → Calls Try.prog 21 #[.int .i64 size, .slice a' N c'] W fun e w' => e = .returned (.bool (decide (0 ≤ size) && fitB size.toNat (vasQ es))) ∧ w' = W) := fun W hW => rfits_any size _ _ _ W (SL.out.below (on_below X5.out hW)) (SP.out.below (on_below X5.out hW))
        clear hb
        by_cases hok : AddOk size es
        · have hfit := AH.out.1 hok
          rw [hfit] at RF
          obtain ⟨hs0, hs1, hf⟩ := hok
          obtain ⟨a5, m5, c5, q5, rfl, ho, hk, hq⟩ := h1.resolve_right (fun h => h.1 ⟨hs0, hs1, hf⟩) |>.2
          obtain ⟨n, rfl⟩ : ∃ n : Nat, size = n := ⟨size.toNat, by omega⟩
          simp only [Int.toNat_natCast] at hf hk ⊢
          obtain ⟨x, hx⟩ : ∃ x, xorAll (zeros n) (vasQ es) = x := ⟨_, rfl⟩
          have HX : Hid (xorAll (zeros n) (vasQ es) = x) := hx
          have HXL : Hid (x.length = n) := by
            unfold Hid
            rw [← hx, xorAll_length (by rw [zeros_length]; intro y hy; exact fitB_mem hf hy), zeros_length]
          rw [hx] at hk
          obtain ⟨L, hL⟩ : ∃ L, oddD (ofsQ es) = L := ⟨_, rfl⟩
          have HLo : Hid (oddD (ofsQ es) = L) := hL
          rw [hL] at ho
          have G5 : Hid (Zs w5 (.slice a5 m5 c5) L) := ho.zs
          have K5 : Hid (Bs w5 (.slice (some ⟨q5, 0, none⟩) n n) x) := hk.bs0 n n HXL.out.symm (Nat.le_refl _) (by unfold maxLen; omega)
          have HF2 : Hid (fitB n (vasQ es) = true) := hf
          clear h1 hx hL ho hk hq hf hfit AH hs0
          go_upto_region 13 with fail
          obtain ⟨w6, hw6⟩ : ∃ x, w5.alloc (.cells #[.slice a5 m5 c5, .slice (some ⟨q5, 0, none⟩) n n] 41) = x := ⟨_, rfl⟩
          have E6 : Hid (EqB w6 w5.heap.size (.slice a5 m5 c5) (.slice (some ⟨q5, 0, none⟩) n n)) := by rw [← hw6]; exact (EqX.new _ _ _).eqb
          have X6 : Hid (Below w5.heap.size w5 w6) := by rw [← hw6]; exact below_alloc _ _
          rw [hw6]
          clear hw6
          obtain ⟨b6, hb6⟩ : ∃ x, w5.heap.size = x := ⟨_, rfl⟩
          rw [hb6] at E6 ⊢
          clear hb6
          obtain ⟨c0, c1⟩ := E6.out
          go_wp2_with fail
          refine (RF.out w6 X6.out).mono ?_
          rintro e w7 ⟨rfl, rfl⟩
          have X46 : Hid (Below w4.heap.size w4 w7) := on_below X5.out X6.out
          clear RF
          go_wp2_with fail
          refine (rodd_any (.slice a m c) (ofsQ es) w7 (OF.out.zs.below X46.out) (by have := HL.out.1; omega)).mono ?_
          rintro e w8 ⟨a8, m8, c8, rfl, ho, hb⟩
          rw [HLo.out] at ho
          have X8 : Hid (Below w7.heap.size w7 w8) := hb
          have X48 : Hid (Below w4.heap.size w4 w8) := on_below X46.out hb
          have R8 : Hid (Zs w8 (.slice a8 m8 c8) L) := ho.zs
          have G8 : Hid (Zs w8 (.slice a5 m5 c5) L) := G5.out.below (on_below X6.out X8.out)
          have K8 : Hid (Bs w8 (.slice (some ⟨q5, 0, none⟩) n n) x) := K5.out.below (on_below X6.out X8.out)
          have BX : Hid (∀ W, Below w8.heap.size w8 W → EqB W b6 (.slice a5 m5 c5) (.slice (some ⟨q5, 0, none⟩) n n)) := fun W hW => E6.out.below (on_below X8.out hW)
          have O8 : Hid (Zs w8 (.slice a m c) (ofsQ es)) := OF.out.zs.below X48.out
          have B8 : Hid (Below w.heap.size w w8) := on_below BB.out X48.out
          have C5 : Hid (∀ W, Below w8.heap.size w8 W → Calls Try.prog 23 #[.slice a5 m5 c5, .slice a8 m8 c8] W fun e w' => ∃ v, e = .returned v ∧ IsV (.int .i64 1) v w' ∧ Below W.heap.size W w') := by
            intro W hW
            refine (same9_any _ _ L L W (G8.out.below hW) (R8.out.below hW)).mono ?_
            rintro e w' ⟨rfl, hb⟩
            exact ⟨_, rfl, by rw [sameI_self]; rfl, hb⟩
          have C10 : Hid (∀ W, Below w8.heap.size w8 W → Calls Try.prog 24 #[.slice a m c] W fun e w' => ∃ v, e = .returned v ∧ IsZl L v w' ∧ Below W.heap.size W w') := by
            intro W hW
            refine (qodd_any _ (ofsQ es) W (O8.out.below hW) (by have := HL.out.1; omega)).mono ?_
            rintro e w' ⟨a', c', rfl, ho, hb⟩
            rw [HLo.out] at ho
            exact ⟨_, rfl, by rw [HLo.out]; exact ho.zs, hb⟩
          have C12 : Hid (∀ W v, Below w8.heap.size w8 W → IsZl L v W → Calls Try.prog 23 #[v, .slice a8 m8 c8] W fun e w' => ∃ v, e = .returned v ∧ IsV (.int .i64 1) v w' ∧ Below W.heap.size W w') := by
            intro W v hW hv
            refine (same9_any _ _ L L W hv (R8.out.below hW)).mono ?_
            rintro e w' ⟨rfl, hb⟩
            exact ⟨_, rfl, by rw [sameI_self]; rfl, hb⟩
          have K18 : Hid (∀ W, Below w8.heap.size w8 W → (convert 25 9 (.slice (some ⟨q5, 0, none⟩) n n)).run Try.prog W = .ok (.string (str x)) W) := fun W hW => conv_bytes (K8.out.below hW)
          have C21 : Hid (∀ W, Below w8.heap.size w8 W → Calls Try.prog 25 #[.int .i64 (n : Int), .slice a' N c'] W fun e w' => ∃ v, e = .returned v ∧ IsBs x v w' ∧ Below W.heap.size W w') := by
            intro W hW
            refine (rsum_any n _ _ _ W (by omega) (SL.out.below (on_below X48.out hW)) (SP.out.below (on_below X48.out hW)) HF2.out).mono ?_
            rintro e w' ⟨rfl, hk, hb⟩
            rw [HX.out] at hk
            exact ⟨_, rfl, hk.bs0 n n HXL.out.symm (Nat.le_refl _) (by unfold maxLen; omega), hb⟩
          clear ho hb c0 c1 E6 X6 X5 X8 X46 X48 G5 K5 G8 K8 R8 O8 OF SL SP HLo HX HXL HF2 BB
          go_upto_region 16 with fail
          refine wp_region_any (by kernel_rfl) ?_
          obtain ⟨gs, hgs⟩ : ∃ gs : List (Value → World → Prop), gs = [IsV (Value.bool true), IsV (Value.bool true), IsV (.pointer (some ⟨b6, 0, none⟩)), IsV (.slice a5 m5 c5), IsV (Value.slice a8 m8 c8), IsV (Value.int IntKind.i64 (1 : Int)), IsV (.bool true), IsV (.bool true), IsV (.bool true), IsV (Value.slice a m c), IsAnyV, IsV (Value.slice a8 m8 c8), IsV (Value.int IntKind.i64 (1 : Int)), IsV (.bool true), IsV (.bool true), IsV (.bool true), IsV (.pointer (some ⟨b6, 1, none⟩)), IsV (.slice (some ⟨q5, 0, none⟩) n n), IsV (.string (str x)), IsV (Value.int IntKind.i64 ↑n), IsV (Value.slice a' N c'), IsAnyV, IsV (.string (str x)), IsV (.bool true), IsV (.bool true), IsV (.bool true)] := ⟨_, rfl⟩
          have g0 : Hid (gs[0]? = some (IsV (Value.bool true))) := by unfold Hid; rw [hgs]; rfl
          have g1 : Hid (gs[1]? = some (IsV (Value.bool true))) := by unfold Hid; rw [hgs]; rfl
          have g2 : Hid (gs[2]? = some (IsV (.pointer (some ⟨b6, 0, none⟩)))) := by unfold Hid; rw [hgs]; rfl
          have g3 : Hid (gs[3]? = some (IsV (.slice a5 m5 c5))) := by unfold Hid; rw [hgs]; rfl
          have g4 : Hid (gs[4]? = some (IsV (Value.slice a8 m8 c8))) := by unfold Hid; rw [hgs]; rfl
          have g5 : Hid (gs[5]? = some (IsV (Value.int IntKind.i64 (1 : Int)))) := by unfold Hid; rw [hgs]; rfl
          have g6 : Hid (gs[6]? = some (IsV (.bool true))) := by unfold Hid; rw [hgs]; rfl
          have g7 : Hid (gs[7]? = some (IsV (.bool true))) := by unfold Hid; rw [hgs]; rfl
          have g8 : Hid (gs[8]? = some (IsV (.bool true))) := by unfold Hid; rw [hgs]; rfl
          have g9 : Hid (gs[9]? = some (IsV (Value.slice a m c))) := by unfold Hid; rw [hgs]; rfl
          have g10 : Hid (gs[10]? = some (IsAnyV)) := by unfold Hid; rw [hgs]; rfl
          have g11 : Hid (gs[11]? = some (IsV (Value.slice a8 m8 c8))) := by unfold Hid; rw [hgs]; rfl
          have g12 : Hid (gs[12]? = some (IsV (Value.int IntKind.i64 (1 : Int)))) := by unfold Hid; rw [hgs]; rfl
          have g13 : Hid (gs[13]? = some (IsV (.bool true))) := by unfold Hid; rw [hgs]; rfl
          have g14 : Hid (gs[14]? = some (IsV (.bool true))) := by unfold Hid; rw [hgs]; rfl
          have g15 : Hid (gs[15]? = some (IsV (.bool true))) := by unfold Hid; rw [hgs]; rfl
          have g16 : Hid (gs[16]? = some (IsV (.pointer (some ⟨b6, 1, none⟩)))) := by unfold Hid; rw [hgs]; rfl
          have g17 : Hid (gs[17]? = some (IsV (.slice (some ⟨q5, 0, none⟩) n n))) := by unfold Hid; rw [hgs]; rfl
          have g18 : Hid (gs[18]? = some (IsV (.string (str x)))) := by unfold Hid; rw [hgs]; rfl
          have g19 : Hid (gs[19]? = some (IsV (Value.int IntKind.i64 ↑n))) := by unfold Hid; rw [hgs]; rfl
          have g20 : Hid (gs[20]? = some (IsV (Value.slice a' N c'))) := by unfold Hid; rw [hgs]; rfl
          have g21 : Hid (gs[21]? = some (IsAnyV)) := by unfold Hid; rw [hgs]; rfl
          have g22 : Hid (gs[22]? = some (IsV (.string (str x)))) := by unfold Hid; rw [hgs]; rfl
          have g23 : Hid (gs[23]? = some (IsV (.bool true))) := by unfold Hid; rw [hgs]; rfl
          have g24 : Hid (gs[24]? = some (IsV (.bool true))) := by unfold Hid; rw [hgs]; rfl
          have g25 : Hid (gs[25]? = some (IsV (.bool true))) := by unfold Hid; rw [hgs]; rfl
          have gk : Hid (∀ p ∈ gs, ∀ v (U U' : World), p v U → p v U') := by
            unfold Hid
            rw [hgs]
            simp only [List.forall_mem_cons]
            exact ⟨(fun _ _ _ h => h), (fun _ _ _ h => h), (fun _ _ _ h => h), (fun _ _ _ h => h), (fun _ _ _ h => h), (fun _ _ _ h => h), (fun _ _ _ h => h), (fun _ _ _ h => h), (fun _ _ _ h => h), (fun _ _ _ h => h), (fun _ _ _ h => h), (fun _ _ _ h => h), (fun _ _ _ h => h), (fun _ _ _ h => h), (fun _ _ _ h => h), (fun _ _ _ h => h), (fun _ _ _ h => h), (fun _ _ _ h => h), (fun _ _ _ h => h), (fun _ _ _ h => h), (fun _ _ _ h => h), (fun _ _ _ h => h), (fun _ _ _ h => h), (fun _ _ _ h => h), (fun _ _ _ h => h), (fun _ _ _ h => h), by simp⟩
          clear hgs
          have JS : Hid (∀ Wb Wb', Below Wb.heap.size Wb Wb' → (fun Wb => Below w8.heap.size w8 Wb) Wb → (fun Wb => Below w8.heap.size w8 Wb) Wb') := fun Wb Wb' hb h => h.trans (hb.mono h.size)
          have st10 : Hid (Stays (IsZl L)) := stays_zl _
          have st21 : Hid (Stays (IsBs x)) := stays_bs _
          refine wpAny_inv4 (fun listed ac Wb => ∃ xvb : Nat → Value, ac = ⟨#[Value.int IntKind.i64 ↑n, Value.slice ao N pc, undef, undef, xvb 25, Value.slice a m c, Value.slice a' N c', undef, u8, Value.pointer (some { block := b6, off := 0 }), Value.bool true, Value.slice a8 m8 c8, Value.bool true, Value.bool false, Value.slice ao N pc, Value.bool false, Value.bool false, Value.int IntKind.i64 ↑n, Value.bool false, Value.bool false, Value.slice ao N pc, Value.int IntKind.i64 ↑N, Value.int IntKind.i64 ↑N, Value.bool false, u24, u25, u26, u27, u28, u29, u30, u31, u32, u33, u34, u35, Value.tuple #[Value.agg #[Value.slice a5 m5 c5, Value.slice (some { block := q5, off := 0 }) n n], Value.bool true], Value.int IntKind.i64 ↑n, Value.slice ao N pc, Value.tuple #[Value.agg #[Value.slice a5 m5 c5, Value.slice (some { block := q5, off := 0 }) n n], Value.bool true], Value.agg #[Value.slice a5 m5 c5, Value.slice (some { block := q5, off := 0 }) n n], Value.bool true, Value.int IntKind.i64 ↑n, Value.slice a' N c', Value.bool true, Value.bool false, undef, undef, undef, undef, undef, undef, undef, undef, undef, undef, undef, undef, undef, undef, Value.slice a m c, Value.slice a8 m8 c8, xvb 0, xvb 1, xvb 2, xvb 3, xvb 4, xvb 5, xvb 6, xvb 7, xvb 8, xvb 9, xvb 10, xvb 11, xvb 12, xvb 13, xvb 14, xvb 15, xvb 16, xvb 17, xvb 18, xvb 19, xvb 20, xvb 21, xvb 22, xvb 23, xvb 24], []⟩ ∧ (fun Wb => Below w8.heap.size w8 Wb) Wb ∧ Lst gs listed xvb Wb ∧ Fe listed xvb Wb 10 (IsZl L) ∧ Fe listed xvb Wb 21 (IsBs x)) (by kernel_rfl) ?_ ?_ _ _ _ _ (by kernel_rfl) (of_decide_eq_true (by kernel_rfl)) (Down.start _) ⟨fun jx => if jx = 25 then Value.bool false else undef, rfl, below0 _, Lst.start _ _ _ _, Fe.start _ _ _ _ _, Fe.start _ _ _ _ _⟩
          · go_light
            rintro listed ac Wb ⟨xvb, rfl, hb, hG, hF10, hF21⟩ hD i hi hnl hd
            have hin : i < 26 := hi
            clear hi
            have hcase : i = 0 ∨ i = 1 ∨ i = 2 ∨ i = 3 ∨ i = 4 ∨ i = 5 ∨ i = 6 ∨ i = 7 ∨ i = 8 ∨ i = 9 ∨ i = 10 ∨ i = 11 ∨ i = 12 ∨ i = 13 ∨ i = 14 ∨ i = 15 ∨ i = 16 ∨ i = 17 ∨ i = 18 ∨ i = 19 ∨ i = 20 ∨ i = 21 ∨ i = 22 ∨ i = 23 ∨ i = 24 ∨ i = 25 := by omega
            rcases hcase with rfl | rfl | rfl | rfl | rfl | rfl | rfl | rfl | rfl | rfl | rfl | rfl | rfl | rfl | rfl | rfl | rfl | rfl | rfl | rfl | rfl | rfl | rfl | rfl | rfl | rfl
            · refine wpOp_step rfl (fun K' hK => ?_)
              clear hd hin hD
              go_simp
              exact hK _ _ ⟨updV xvb 0 (Value.bool true), by simp [updV], hb, hG.any gk.out g0.out _ rfl, hF10.step (fun _ h => h) (by decide) _, hF21.step (fun _ h => h) (by decide) _⟩
            · refine wpOp_step rfl (fun K' hK => ?_)
              simp [Region.binds] at hd
              have e0 : xvb 0 = Value.bool true := hG.get g0.out (by simp [hd])
              clear hd hin hD
              go_simp
              exact hK _ _ ⟨updV xvb 1 (Value.bool true), by simp [updV, e0], hb, hG.any gk.out g1.out _ rfl, hF10.step (fun _ h => h) (by decide) _, hF21.step (fun _ h => h) (by decide) _⟩
            · refine wpOp_step rfl (fun K' hK => ?_)
              simp [Region.binds] at hd
              have e1 : xvb 1 = Value.bool true := hG.get g1.out (by simp [hd])
              clear hd hin hD
              go_simp
              exact hK _ _ ⟨updV xvb 2 (.pointer (some ⟨b6, 0, none⟩)), by simp [updV, e1], hb, hG.any gk.out g2.out _ rfl, hF10.step (fun _ h => h) (by decide) _, hF21.step (fun _ h => h) (by decide) _⟩
            · refine wpOp_step rfl (fun K' hK => ?_)
              simp [Region.binds] at hd
              have e2 : xvb 2 = .pointer (some ⟨b6, 0, none⟩) := hG.get g2.out (by simp [hd])
              have e1 : xvb 1 = Value.bool true := hG.get g1.out (by simp [hd])
              obtain ⟨c0, c1⟩ := BX.out Wb hb
              clear hd hin hD
              go_simp
              exact hK _ _ ⟨updV xvb 3 (.slice a5 m5 c5), by simp [updV, e2, e1], hb, hG.any gk.out g3.out _ rfl, hF10.step (fun _ h => h) (by decide) _, hF21.step (fun _ h => h) (by decide) _⟩
            · refine wpOp_step rfl (fun K' hK => ?_)
              simp [Region.binds] at hd
              have e1 : xvb 1 = Value.bool true := hG.get g1.out (by simp [hd])
              clear hd hin hD
              go_simp
              exact hK _ _ ⟨updV xvb 4 (Value.slice a8 m8 c8), by simp [updV, e1], hb, hG.any gk.out g4.out _ rfl, hF10.step (fun _ h => h) (by decide) _, hF21.step (fun _ h => h) (by decide) _⟩
            · refine wpOp_step rfl (fun K' hK => ?_)
              simp [Region.binds] at hd
              have e3 : xvb 3 = .slice a5 m5 c5 := hG.get g3.out (by simp [hd])
              have e4 : xvb 4 = Value.slice a8 m8 c8 := hG.get g4.out (by simp [hd])
              have e1 : xvb 1 = Value.bool true := hG.get g1.out (by simp [hd])
              clear hd hin hD
              go_simp
              refine (C5.out Wb hb).mono ?_
              rintro e w' ⟨v, rfl, hv, hb'⟩
              go_wp2_with fail
              exact ⟨updV xvb 5 v, by simp [updV, e3, e4, e1], JS.out _ _ hb' hb, hG.any gk.out g5.out v hv, hF10.on st10.out hb' (by decide) _, hF21.on st21.out hb' (by decide) _⟩
            · refine wpOp_step rfl (fun K' hK => ?_)
              simp [Region.binds] at hd
              have e5 : xvb 5 = Value.int IntKind.i64 (1 : Int) := hG.get g5.out (by simp [hd])
              have e1 : xvb 1 = Value.bool true := hG.get g1.out (by simp [hd])
              clear hd hin hD
              go_simp
              exact hK _ _ ⟨updV xvb 6 (.bool true), by simp [updV, e5, e1], hb, hG.any gk.out g6.out _ rfl, hF10.step (fun _ h => h) (by decide) _, hF21.step (fun _ h => h) (by decide) _⟩
            · refine wpOp_step rfl (fun K' hK => ?_)
              simp [Region.binds] at hd
              have e1 : xvb 1 = Value.bool true := hG.get g1.out (by simp [hd])
              have e6 : xvb 6 = .bool true := hG.get g6.out (by simp [hd])
              clear hd hin hD
              go_simp
              exact hK _ _ ⟨updV xvb 7 (.bool true), by simp [updV, e1, e6], hb, hG.any gk.out g7.out _ rfl, hF10.step (fun _ h => h) (by decide) _, hF21.step (fun _ h => h) (by decide) _⟩
            · refine wpOp_step rfl (fun K' hK => ?_)
              simp [Region.binds] at hd
              have e7 : xvb 7 = .bool true := hG.get g7.out (by simp [hd])
              clear hd hin hD
              go_simp
              exact hK _ _ ⟨updV xvb 8 (.bool true), by simp [updV, e7], hb, hG.any gk.out g8.out _ rfl, hF10.step (fun _ h => h) (by decide) _, hF21.step (fun _ h => h) (by decide) _⟩
            · refine wpOp_step rfl (fun K' hK => ?_)
              simp [Region.binds] at hd
              have e8 : xvb 8 = .bool true := hG.get g8.out (by simp [hd])
              clear hd hin hD
              go_simp
              exact hK _ _ ⟨updV xvb 9 (Value.slice a m c), by simp [updV, e8], hb, hG.any gk.out g9.out _ rfl, hF10.step (fun _ h => h) (by decide) _, hF21.step (fun _ h => h) (by decide) _⟩
            · refine wpOp_step rfl (fun K' hK => ?_)
              simp [Region.binds] at hd
              have e9 : xvb 9 = Value.slice a m c := hG.get g9.out (by simp [hd])
              have e8 : xvb 8 = .bool true := hG.get g8.out (by simp [hd])
              clear hd hin hD
              go_simp
              refine (C10.out Wb hb).mono ?_
              rintro e w' ⟨v, rfl, hv, hb'⟩
              go_wp2_with fail
              exact ⟨updV xvb 10 v, by simp [updV, e9, e8], JS.out _ _ hb' hb, hG.any gk.out g10.out v trivial, Fe.new (hv), hF21.on st21.out hb' (by decide) _⟩
            · refine wpOp_step rfl (fun K' hK => ?_)
              simp [Region.binds] at hd
              have e8 : xvb 8 = .bool true := hG.get g8.out (by simp [hd])
              clear hd hin hD
              go_simp
              exact hK _ _ ⟨updV xvb 11 (Value.slice a8 m8 c8), by simp [updV, e8], hb, hG.any gk.out g11.out _ rfl, hF10.step (fun _ h => h) (by decide) _, hF21.step (fun _ h => h) (by decide) _⟩
            · refine wpOp_step rfl (fun K' hK => ?_)
              simp [Region.binds] at hd
              have l10 : listed.getD 10 false = true := by simp [hd]
              have m10 := hF10 l10
              have e11 : xvb 11 = Value.slice a8 m8 c8 := hG.get g11.out (by simp [hd])
              have e8 : xvb 8 = .bool true := hG.get g8.out (by simp [hd])
              clear hd hin hD
              go_simp
              refine (C12.out Wb _ hb m10).mono ?_
              rintro e w' ⟨v, rfl, hv, hb'⟩
              go_wp2_with fail
              exact ⟨updV xvb 12 v, by simp [updV, e11, e8], JS.out _ _ hb' hb, hG.any gk.out g12.out v hv, hF10.on st10.out hb' (by decide) _, hF21.on st21.out hb' (by decide) _⟩
            · refine wpOp_step rfl (fun K' hK => ?_)
              simp [Region.binds] at hd
              have e12 : xvb 12 = Value.int IntKind.i64 (1 : Int) := hG.get g12.out (by simp [hd])
              have e8 : xvb 8 = .bool true := hG.get g8.out (by simp [hd])
              clear hd hin hD
              go_simp
              exact hK _ _ ⟨updV xvb 13 (.bool true), by simp [updV, e12, e8], hb, hG.any gk.out g13.out _ rfl, hF10.step (fun _ h => h) (by decide) _, hF21.step (fun _ h => h) (by decide) _⟩
            · refine wpOp_step rfl (fun K' hK => ?_)
              simp [Region.binds] at hd
              have e8 : xvb 8 = .bool true := hG.get g8.out (by simp [hd])
              have e13 : xvb 13 = .bool true := hG.get g13.out (by simp [hd])
              clear hd hin hD
              go_simp
              exact hK _ _ ⟨updV xvb 14 (.bool true), by simp [updV, e8, e13], hb, hG.any gk.out g14.out _ rfl, hF10.step (fun _ h => h) (by decide) _, hF21.step (fun _ h => h) (by decide) _⟩
            · refine wpOp_step rfl (fun K' hK => ?_)
              simp [Region.binds] at hd
              have e14 : xvb 14 = .bool true := hG.get g14.out (by simp [hd])
              clear hd hin hD
              go_simp
              exact hK _ _ ⟨updV xvb 15 (.bool true), by simp [updV, e14], hb, hG.any gk.out g15.out _ rfl, hF10.step (fun _ h => h) (by decide) _, hF21.step (fun _ h => h) (by decide) _⟩
            · refine wpOp_step rfl (fun K' hK => ?_)
              simp [Region.binds] at hd
              have e15 : xvb 15 = .bool true := hG.get g15.out (by simp [hd])
              clear hd hin hD
              go_simp
              exact hK _ _ ⟨updV xvb 16 (.pointer (some ⟨b6, 1, none⟩)), by simp [updV, e15], hb, hG.any gk.out g16.out _ rfl, hF10.step (fun _ h => h) (by decide) _, hF21.step (fun _ h => h) (by decide) _⟩
            · refine wpOp_step rfl (fun K' hK => ?_)
              simp [Region.binds] at hd
              have e16 : xvb 16 = .pointer (some ⟨b6, 1, none⟩) := hG.get g16.out (by simp [hd])
              have e15 : xvb 15 = .bool true := hG.get g15.out (by simp [hd])
              obtain ⟨c0, c1⟩ := BX.out Wb hb
              clear hd hin hD
              go_simp
              exact hK _ _ ⟨updV xvb 17 (.slice (some ⟨q5, 0, none⟩) n n), by simp [updV, e16, e15], hb, hG.any gk.out g17.out _ rfl, hF10.step (fun _ h => h) (by decide) _, hF21.step (fun _ h => h) (by decide) _⟩
            · refine wpOp_step rfl (fun K' hK => ?_)
              simp [Region.binds] at hd
              have e17 : xvb 17 = .slice (some ⟨q5, 0, none⟩) n n := hG.get g17.out (by simp [hd])
              have e15 : xvb 15 = .bool true := hG.get g15.out (by simp [hd])
              have kr := K18.out Wb hb
              clear hd hin hD
              go_simp
              exact hK _ _ ⟨updV xvb 18 (.string (str x)), by simp [updV, e17, e15], hb, hG.any gk.out g18.out _ rfl, hF10.step (fun _ h => h) (by decide) _, hF21.step (fun _ h => h) (by decide) _⟩
            · refine wpOp_step rfl (fun K' hK => ?_)
              simp [Region.binds] at hd
              have e15 : xvb 15 = .bool true := hG.get g15.out (by simp [hd])
              clear hd hin hD
              go_simp
              exact hK _ _ ⟨updV xvb 19 (Value.int IntKind.i64 ↑n), by simp [updV, e15], hb, hG.any gk.out g19.out _ rfl, hF10.step (fun _ h => h) (by decide) _, hF21.step (fun _ h => h) (by decide) _⟩
            · refine wpOp_step rfl (fun K' hK => ?_)
              simp [Region.binds] at hd
              have e15 : xvb 15 = .bool true := hG.get g15.out (by simp [hd])
              clear hd hin hD
              go_simp
              exact hK _ _ ⟨updV xvb 20 (Value.slice a' N c'), by simp [updV, e15], hb, hG.any gk.out g20.out _ rfl, hF10.step (fun _ h => h) (by decide) _, hF21.step (fun _ h => h) (by decide) _⟩
            · refine wpOp_step rfl (fun K' hK => ?_)
              simp [Region.binds] at hd
              have e19 : xvb 19 = Value.int IntKind.i64 ↑n := hG.get g19.out (by simp [hd])
              have e20 : xvb 20 = Value.slice a' N c' := hG.get g20.out (by simp [hd])
              have e15 : xvb 15 = .bool true := hG.get g15.out (by simp [hd])
              clear hd hin hD
              go_simp
              refine (C21.out Wb hb).mono ?_
              rintro e w' ⟨v, rfl, hv, hb'⟩
              go_wp2_with fail
              exact ⟨updV xvb 21 v, by simp [updV, e19, e20, e15], JS.out _ _ hb' hb, hG.any gk.out g21.out v trivial, hF10.on st10.out hb' (by decide) _, Fe.new (hv)⟩
            · refine wpOp_step rfl (fun K' hK => ?_)
              simp [Region.binds] at hd
              have l21 : listed.getD 21 false = true := by simp [hd]
              have m21 := hF21 l21
              have e15 : xvb 15 = .bool true := hG.get g15.out (by simp [hd])
              have kr := conv_bytes m21
              clear hd hin hD
              go_simp
              exact hK _ _ ⟨updV xvb 22 (.string (str x)), by simp [updV, e15], hb, hG.any gk.out g22.out _ rfl, hF10.step (fun _ h => h) (by decide) _, hF21.step (fun _ h => h) (by decide) _⟩
            · refine wpOp_step rfl (fun K' hK => ?_)
              simp [Region.binds] at hd
              have e18 : xvb 18 = .string (str x) := hG.get g18.out (by simp [hd])
              have e22 : xvb 22 = .string (str x) := hG.get g22.out (by simp [hd])
              have e15 : xvb 15 = .bool true := hG.get g15.out (by simp [hd])
              clear hd hin hD
              go_simp
              exact hK _ _ ⟨updV xvb 23 (.bool true), by simp [updV, e18, e22, e15], hb, hG.any gk.out g23.out _ rfl, hF10.step (fun _ h => h) (by decide) _, hF21.step (fun _ h => h) (by decide) _⟩
            · refine wpOp_step rfl (fun K' hK => ?_)
              simp [Region.binds] at hd
              have e15 : xvb 15 = .bool true := hG.get g15.out (by simp [hd])
              have e23 : xvb 23 = .bool true := hG.get g23.out (by simp [hd])
              clear hd hin hD
              go_simp
              exact hK _ _ ⟨updV xvb 24 (.bool true), by simp [updV, e15, e23], hb, hG.any gk.out g24.out _ rfl, hF10.step (fun _ h => h) (by decide) _, hF21.step (fun _ h => h) (by decide) _⟩
            · refine wpOp_step rfl (fun K' hK => ?_)
              simp [Region.binds] at hd
              have e24 : xvb 24 = .bool true := hG.get g24.out (by simp [hd])
              clear hd hin hD
              go_simp
              exact hK _ _ ⟨updV xvb 25 (.bool true), by simp [updV, e24], hb, hG.any gk.out g25.out _ rfl, hF10.step (fun _ h => h) (by decide) _, hF21.step (fun _ h => h) (by decide) _⟩
          · rintro listed ac Wb ⟨xvb, rfl, hb, hG, hF10, hF21⟩ hall
            have e25 : xvb 25 = .bool true := hG.get g25.out (hall 25 (by decide))
            have XW : Hid ((fun Wb => Below w8.heap.size w8 Wb) Wb) := hb
            clear hall hG hb gk JS g0 g1 g2 g3 g4 g5 g6 g7 g8 g9 g10 g11 g12 g13 g14 g15 g16 g17 g18 g19 g20 g21 g22 g23 g24 g25 hF10 st10 hF21 st21
            rw [e25]
            clear e25
            have B9 : Hid (Below w.heap.size w Wb) := on_below B8.out XW.out
            clear XW BX C5 C10 C12 K18 C21
            go_wp2
            go_ret
            exact ⟨rfl, B9.out⟩
        · have hfit : (decide (0 ≤ size) && fitB size.toNat (vasQ es)) = false := by
            cases h : (decide (0 ≤ size) && fitB size.toNat (vasQ es)) with
            | false => rfl
            | true => exact absurd (AH.out.2 h) hok
          rw [hfit] at RF
          obtain ⟨-, rfl⟩ := h1.resolve_left (fun h => hok h.1)
          clear h1 hok hfit AH
          go_upto_region 13 with fail
          obtain ⟨w6, hw6⟩ : ∃ x, w5.alloc (.cells #[.slice none 0 0, .slice none 0 0] 41) = x := ⟨_, rfl⟩
          have E6 : Hid (EqB w6 w5.heap.size (.slice none 0 0) (.slice none 0 0)) := by rw [← hw6]; exact (EqX.new _ _ _).eqb
          have X6 : Hid (Below w5.heap.size w5 w6) := by rw [← hw6]; exact below_alloc _ _
          have B6 : Hid (Below w.heap.size w w6) := on_below BB.out (on_below X5.out X6.out)
          rw [hw6]
          clear hw6
          obtain ⟨c0, c1⟩ := E6.out
          go_wp2_with fail
          refine (RF.out w6 X6.out).mono ?_
          rintro e w7 ⟨rfl, rfl⟩
          clear RF X6 X5
          go_wp2
          go_ret
          exact ⟨rfl, B6.out⟩

theorem equationAdds_law (size : Int) (pv : Value) (es : List Qe) (w : World) (_ : (Lit.int .i64 size).wf = true) (hp : Qs w pv es) (hq : ∀ e ∈ es, QeW e) (_ : es.length ≤ 140737488355328) :
    Calls Try.prog 4 #[.int .i64 size, pv] w fun e w' => e = .returned (.bool true) ∧ Below w.heap.size w w' := equationAdds_walk size pv es w hp hq

end Go.Proofs.Ytkcijbejngnalaa
