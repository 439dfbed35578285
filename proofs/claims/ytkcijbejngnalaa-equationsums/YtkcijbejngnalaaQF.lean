/-
  equation: Add, as the program has it.
-/
import Derived.Test.YtkcijbejngnalaaQE
import Derived.Deep.MidRow
import Derived.Laws.ResultCell
namespace Go.Proofs.Ytkcijbejngnalaa
open Go.RowKit
set_option linter.unusedVariables false

theorem ret_cell2 {fn : Func} {p u : Tmp} {ty : TypeId} (h : fn.results = #[.cell p ty, .tmp u]) {tmps : Array Value} {P : Program} {W : World} {b : Nat} {v x : Value} (hp : tmps.getD p undef = .pointer (some ⟨b, 0, none⟩)) (hx : tmps.getD u undef = x) (hl : (loadVar ty ⟨b, 0, none⟩).run P W = .ok v W) : (results fn tmps).run P W = .ok (.tuple #[v, x]) W := by
  rw [results_cell_tmp h, hp, hx]
  simp [asAddr, Result.andThen, hl]

/-- An equation's box, whole. -/
def EqX (w : World) (b : Nat) (ov vv : Value) : Prop := w.heap[b]? = some (.cells #[ov, vv] 41 (0, 0))
theorem EqX.lt {w : World} {b : Nat} {ov vv : Value} (h : EqX w b ov vv) : b < w.heap.size := (Array.getElem?_eq_some_iff.1 h).1
theorem EqX.kept {w w' : World} {b : Nat} {ov vv : Value} (h : EqX w b ov vv) (hk : w'.heap[b]? = w.heap[b]?) : EqX w' b ov vv := hk.trans h
theorem EqX.below {w w' : World} {b : Nat} {ov vv : Value} (h : EqX w b ov vv) (hb : Below w.heap.size w w') : EqX w' b ov vv := h.kept (hb.block b h.lt)
theorem EqX.new (w : World) (ov vv : Value) : EqX (w.alloc (.cells #[ov, vv] 41)) w.heap.size ov vv := by
  show (w.heap.push _)[w.heap.size]? = _
  simp
theorem EqX.eqb {w : World} {b : Nat} {ov vv : Value} (h : EqX w b ov vv) : EqB w b ov vv := by
  have h' : w.heap[b]? = _ := h
  constructor <;> simp [World.cell?, h']
theorem EqX.frozen {w : World} {b : Nat} {ov vv : Value} (h : EqX w b ov vv) (j : Nat) : w.frozen? ⟨b, j, none⟩ = false := by
  simp [World.frozen?, show w.heap[b]? = _ from h]
theorem EqX.set0 {w : World} {b : Nat} {ov vv : Value} (h : EqX w b ov vv) (u : Value) : EqX (w.setCell ⟨b, 0, none⟩ u) b u vv := by
  have h' : w.heap[b]? = _ := h
  simp [EqX, World.setCell, Array.getElem?_modify, h']
theorem EqX.set1 {w : World} {b : Nat} {ov vv : Value} (h : EqX w b ov vv) (u : Value) : EqX (w.setCell ⟨b, 1, none⟩ u) b ov u := by
  have h' : w.heap[b]? = _ := h
  simp [EqX, World.setCell, Array.getElem?_modify, h']
theorem EqB.load {W : World} {b : Nat} {ov vv : Value} (h : EqB W b ov vv) : (loadVar 41 ⟨b, 0, none⟩).run Try.prog W = .ok (.agg #[ov, vv]) W := by
  obtain ⟨h0, h1⟩ := h
  refine run_loadVar_mid W b 0 41 [ov, vv] _ ?_ Try.underlying41 rfl (by kernel_rfl)
  intro j v hj
  rw [Nat.zero_add]
  have hj2 : j < 2 := by have := (List.getElem?_eq_some_iff.1 hj).1; simpa using this
  match j, hj2 with
  | 0, _ => simp at hj; subst hj; exact h0
  | 1, _ => simp at hj; subst hj; exact h1

/-- What isn't of numbers' type stays, where numbers are appended. -/
theorem grown_kindZ {B n : Nat} {w w' : World} {v : Value} {l : List Int} (ho : OwnZ B w v n l) (hg : w.grownBy w' v.ownBlock) {q : Nat} {cs : Array Value} {t : TypeId} {fr : Nat × Nat} (hq : w.heap[q]? = some (.cells cs t fr)) (ht : t ≠ 3) : w'.heap[q]? = w.heap[q]? := by
  have hlt : q < w.heap.size := (Array.getElem?_eq_some_iff.1 hq).1
  refine hg.block q hlt (fun e => ?_)
  obtain ⟨c1, e1⟩ := owns_type' ho q e.symm
  rw [e1] at hq
  injection hq with hq
  injection hq with _ h2 _
  exact ht h2.symm
theorem EqX.grownZ {B n : Nat} {w w' : World} {v : Value} {l : List Int} {b : Nat} {ov vv : Value} (h : EqX w b ov vv) (ho : OwnZ B w v n l) (hg : w.grownBy w' v.ownBlock) : EqX w' b ov vv := h.kept (grown_kindZ ho hg h (by decide))
theorem row_grownZ {B B1 n m : Nat} {w w' : World} {v u : Value} {l : List Int} {cs : List Value} (h : w.ownsRow B1 25 1 u m cs) (ho : OwnZ B w v n l) (hg : w.grownBy w' v.ownBlock) : w'.ownsRow B1 25 1 u m cs := by
  refine owns_kept h fun q hq => ?_
  obtain ⟨c, e⟩ := owns_type' h q hq
  exact grown_kindZ ho hg e (by decide)
theorem row_setR {w : World} {B g n cap j : Nat} {e : TypeId} {cs : List Value} (h : w.ownsRow B e 1 (.slice (some ⟨g, 0, none⟩) n cap) n cs) (u : Value) : (w.setCell ⟨g, j, none⟩ u).ownsRow B e 1 (.slice (some ⟨g, 0, none⟩) n cap) n (cs.set j u) := by
  obtain ⟨h1, h2⟩ := h
  refine ⟨by simpa using h1, ?_⟩
  rcases h2 with ⟨h2, -⟩ | ⟨g', cap', cur, hv, hg, hh, hnc, hcm, hcs, htake⟩
  · cases h2
  · injection hv with e1 e2 e3
    injection e1 with e1
    injection e1 with e1 e4 e5
    subst e1
    subst e3
    refine .inr ⟨g, cap, cur.setIfInBounds j u, rfl, hg, ?_, hnc, hcm, by simpa using hcs, ?_⟩
    · unfold World.setCell
      simp [Array.getElem?_modify, hh]
    · rw [Array.toList_setIfInBounds, List.take_set, htake]
theorem row_fr {w : World} {B g n cap : Nat} {e : TypeId} {cs : List Value} (h : w.ownsRow B e 1 (.slice (some ⟨g, 0, none⟩) n cap) n cs) (j : Nat) : w.frozen? ⟨g, j, none⟩ = false := by
  rcases h.2 with ⟨h2, -⟩ | ⟨g', cap', cur, hv, hg, hh, -⟩
  · cases h2
  · injection hv with e1 e2 e3
    injection e1 with e1
    injection e1 with e1 e4 e5
    subst e1
    simp [World.frozen?, hh]

/-- Can equations be put upon each other? -/
def AddOk (size : Int) (es : List Qe) : Prop := 0 ≤ size ∧ size ≤ 16777216 ∧ fitB size.toNat (vasQ es) = true
/-- The first i values, noughts behind them. -/
def vvTo (es : List Qe) (i : Nat) : List Value := (es.take i).map Qe.vv ++ List.replicate (es.length - i) (.slice none 0 0)
theorem vvTo_zero (es : List Qe) : vvTo es 0 = List.replicate es.length (.slice none 0 0) := by simp [vvTo]
theorem vvTo_all (es : List Qe) : vvTo es es.length = es.map Qe.vv := by simp [vvTo]
theorem vvTo_length (es : List Qe) (i : Nat) : (vvTo es i).length = min i es.length + (es.length - i) := by simp [vvTo]
theorem vvTo_next {es : List Qe} {i : Nat} {e : Qe} (h : es[i]? = some e) : (vvTo es i).set i e.vv = vvTo es (i + 1) := by
  obtain ⟨hi, rfl⟩ := List.getElem?_eq_some_iff.1 h
  unfold vvTo
  have hl : ((es.take i).map Qe.vv).length = i := by simp; omega
  have hr : es.length - i = (es.length - (i + 1)) + 1 := by omega
  rw [hr, List.replicate_succ, List.set_append_right _ _ (by omega), hl, Nat.sub_self, List.set_cons_zero, List.take_succ_eq_append_getElem hi, List.map_append, List.append_assoc]
  rfl
theorem qs_parts {w : World} {es : List Qe} (h : ∀ e ∈ es, QeP w e) : Parts w (es.map Qe.vv) (vasQ es) := by
  refine ⟨by simp [vasQ], fun i v p hv hp => ?_⟩
  unfold vasQ at hp
  rw [List.getElem?_map] at hv hp
  cases he : es[i]? with
  | none => rw [he] at hv; cases hv
  | some e =>
    rw [he] at hv hp
    simp at hv hp
    subst hv; subst hp
    exact (h e (List.mem_of_getElem? he)).2

set_option maxRecDepth 100000 in
set_option maxHeartbeats 1000000 in
/-- ADD. -/
theorem qadd_any (size : Int) (pv : Value) (es : List Qe) (w : World) (hp : Qs w pv es) (hm : (ofsQ es).length ≤ 100000000) (hn : es.length ≤ 1000000) :
    Calls Try.prog 20 #[.int .i64 size, pv] w fun e w' => ((AddOk size es ∧ ∃ a m c q, e = .returned (.tuple #[.agg #[.slice a m c, .slice (some ⟨q, 0, none⟩) size.toNat size.toNat], .bool true]) ∧ OwnZ w.heap.size w' (.slice a m c) m (oddD (ofsQ es)) ∧ Blk w' q [] (xorAll (zeros size.toNat) (vasQ es)) [] ∧ w.heap.size ≤ q) ∨ (¬ AddOk size es ∧ e = .returned (.tuple #[.agg #[.slice none 0 0, .slice none 0 0], .bool false]))) ∧ Below w.heap.size w w' := by
  have HP : Hid (Qs w pv es) := hp
  obtain ⟨ao, pc, rfl, hp2, hp3⟩ := hp.shape
  have HM : Hid (∀ i, (ofsQ (es.take i)).length ≤ 100000000) := fun i => Nat.le_trans (ofsQ_le es i) hm
  obtain ⟨N, hN⟩ : ∃ N, es.length = N := ⟨_, rfl⟩
  have HN : Hid (es.length = N) := hN
  rw [hN] at hn hp2 HP ⊢
  clear hN hm hp
  obtain ⟨i0, hi, hz0, hz1, hz2⟩ := infoBs_parts
  go_enter Try.func20, Try.ntmps20
  go_upto_region 2 with fail
  obtain ⟨w1, hw1⟩ : ∃ x, w.alloc (.cells #[.slice none 0 0, .slice none 0 0] 41) = x := ⟨_, rfl⟩
  have E1 : Hid (EqX w1 w.heap.size (.slice none 0 0) (.slice none 0 0)) := by rw [← hw1]; exact EqX.new _ _ _
  have B1 : Hid (Below w.heap.size w w1) := by rw [← hw1]; exact below_alloc _ _
  rw [hw1]
  clear hw1
  go_wp2_with (at_make; refine wpList_make_full _ rfl _ _ 32 rfl w.heap.size 25 i0 (.slice none 0 0) 1 Try.underlying32 hi hz0 hz1 _ _ _ _ N rfl rfl rfl rfl (by rw [hz2]; omega) (by unfold maxLen; omega) B1.out.size ?_; intro w2 ho hgrow)
  have R2 : Hid (w2.ownsRow w.heap.size 25 1 (.slice (some ⟨w1.heap.size, 0, none⟩) N N) N (vvTo es 0)) := by
    simp only [Value.cells, Nat.mul_one, toList_madeCells_one] at ho
    rw [vvTo_zero, HN.out]
    exact ho
  have E2 : Hid (EqX w2 w.heap.size (.slice none 0 0) (.slice none 0 0)) := E1.out.kept (hgrow.block _ E1.out.lt (by simp))
  have B2 : Hid (Below w.heap.size w w2) := on_below B1.out (below_fresh hgrow)
  have Q12 : Hid (w.heap.size < w1.heap.size) := E1.out.lt
  clear ho hgrow E1
  obtain ⟨qv, hqv⟩ : ∃ q, w1.heap.size = q := ⟨_, rfl⟩
  rw [hqv] at R2 Q12 ⊢
  clear hqv B1 hi hz0 hz1 hz2
  go_loopw [6, 17] (fun ov iv wr => ∃ (i : Nat) (a : Option Addr) (m c : Nat), i ≤ N ∧ iv = .int .i64 i ∧ ov = .slice a m c ∧ Hid (OwnZ w.heap.size wr (.slice a m c) m (ofsQ (es.take i))) ∧ Hid (wr.ownsRow w.heap.size 25 1 (.slice (some ⟨qv, 0, none⟩) N N) N (vvTo es i)) ∧ Hid (EqX wr w.heap.size (.slice none 0 0) (.slice none 0 0)) ∧ Hid (Below w.heap.size w wr)) (fun _ iv _ => N - (intOf iv).toNat)
  case atStart => exact ⟨0, none, 0, 0, by omega, rfl, rfl, OwnZ.nil _ _, R2, E2, B2⟩
  case round =>
    clear R2 E2 B2
    obtain ⟨i, a, m, c, hi, rfl, rfl, OO, RR, EE, BB⟩ := hrel
    by_cases hlt : i < N
    · obtain ⟨e, he⟩ : ∃ e, es[i]? = some e := ⟨_, List.getElem?_eq_getElem (by rw [HN.out]; exact hlt)⟩
      have HE : Hid (es[i]? = some e) := he
      have HPn : Qs w (.slice ao N pc) es := HP.out
      obtain ⟨b, off, rfl, c0, c1⟩ := Qs.at HPn BB.out he
      obtain ⟨hez, heb⟩ := Qs.get HPn BB.out he
      obtain ⟨oa, oc, eo, -, -⟩ := zs_shape hez
      obtain ⟨va, vc, ev, -, -⟩ := bs_shape heb
      have HZ : Hid (Zs wr (.slice oa e.of.length oc) e.of) := by rw [← eo]; exact hez
      rw [eo] at c0
      rw [ev] at c1
      have hmi : m + e.of.length ≤ 100000000 := by
        have h1 := OO.out.len
        have h2 := HM.out (i + 1)
        rw [ofsQ_next he, List.length_append] at h2
        omega
      have NX : Hid (ofsQ (es.take (i + 1)) = ofsQ (es.take i) ++ e.of) := ofsQ_next he
      have VX : Hid ((vvTo es i).set i (.slice va e.va.length vc) = vvTo es (i + 1)) := by rw [← ev]; exact vvTo_next he
      clear he HPn hez heb eo ev
      go_upto_region 6 with fail
      obtain ⟨w3, hw3⟩ : ∃ x, wr.alloc (.cells #[.slice oa e.of.length oc, .slice va e.va.length vc] 41) = x := ⟨_, rfl⟩
      have X3 : Hid (Below wr.heap.size wr w3) := by rw [← hw3]; exact below_alloc _ _
      have F3 : Hid (EqX w3 wr.heap.size (.slice oa e.of.length oc) (.slice va e.va.length vc)) := by rw [← hw3]; exact EqX.new _ _ _
      rw [hw3]
      clear hw3
      have O3 : Hid (OwnZ w.heap.size w3 (.slice a m c) m (ofsQ (es.take i))) := OO.out.below X3.out
      have R3 : Hid (w3.ownsRow w.heap.size 25 1 (.slice (some ⟨qv, 0, none⟩) N N) N (vvTo es i)) := owns_below RR.out X3.out
      have E3 : Hid (EqX w3 w.heap.size (.slice none 0 0) (.slice none 0 0)) := EE.out.below X3.out
      have B3 : Hid (Below w.heap.size w w3) := on_below BB.out X3.out
      have Z3 : Hid (Zs w3 (.slice oa e.of.length oc) e.of) := HZ.out.below X3.out
      have SB : Hid (w.heap.size ≤ wr.heap.size) := BB.out.size
      obtain ⟨wb, hwb⟩ : ∃ x, wr.heap.size = x := ⟨_, rfl⟩
      rw [hwb] at F3 SB ⊢
      clear OO RR EE BB HZ X3 c0 c1 hwb
      obtain ⟨c0, c1⟩ := F3.out.eqb
      go_upto_region 7 with (at_builtin; refine wpList_addZ w3 rfl (.tmp 22) (.tmp 24) rfl w.heap.size (.slice a m c) m _ rfl O3.out _ e.of.length e.of rfl Z3.out (by omega) B3.out.size ?_; intro a4 k4 w4 ho4 hg4 hat4 hnc4 hcm4)
      have O4 : Hid (OwnZ w.heap.size w4 (.slice a4 (m + e.of.length) k4) (m + e.of.length) (ofsQ (es.take (i + 1)))) := by rw [NX.out]; exact ho4
      have R4 : Hid (w4.ownsRow w.heap.size 25 1 (.slice (some ⟨qv, 0, none⟩) N N) N (vvTo es i)) := row_grownZ R3.out O3.out hg4
      have E4 : Hid (EqX w4 w.heap.size (.slice none 0 0) (.slice none 0 0)) := E3.out.grownZ O3.out hg4
      have F4 : Hid (EqX w4 wb (.slice oa e.of.length oc) (.slice va e.va.length vc)) := F3.out.grownZ O3.out hg4
      have B4 : Hid (Below w.heap.size w w4) := below_added B3.out O3.out (Nat.le_refl _) B3.out.size hg4
      clear ho4 hg4 hat4 O3 R3 E3 F3 B3 Z3 c0 c1
      obtain ⟨c0, c1⟩ := F4.out.eqb
      have fr := row_fr R4.out i
      have cv : ∃ u, w4.cell? ⟨qv, i, none⟩ = some u := by
        have h1 := World.ownsRow.cellAt R4.out i (by omega)
        rw [List.getElem?_eq_getElem (by rw [vvTo_length, HN.out]; omega)] at h1
        exact ⟨_, h1⟩
      obtain ⟨u, cv⟩ := cv
      have S4 := row_setR (j := i) R4.out (.slice va e.va.length vc)
      rw [VX.out] at S4
      have R5 : Hid ((w4.setCell ⟨qv, i, none⟩ (.slice va e.va.length vc)).ownsRow w.heap.size 25 1 (.slice (some ⟨qv, 0, none⟩) N N) N (vvTo es (i + 1))) := S4
      have KK : ∀ k, k ≠ qv → (w4.setCell ⟨qv, i, none⟩ (.slice va e.va.length vc)).heap[k]? = w4.heap[k]? := fun k hk => Below.heap_setCell _ _ _ k hk
      have O5 : Hid (OwnZ w.heap.size (w4.setCell ⟨qv, i, none⟩ (.slice va e.va.length vc)) (.slice a4 (m + e.of.length) k4) (m + e.of.length) (ofsQ (es.take (i + 1)))) := by
        refine O4.out.kept fun q hq => KK q (fun e' => ?_)
        obtain ⟨x1, e1⟩ := owns_type' O4.out q hq
        obtain ⟨x2, e2⟩ := owns_type' R4.out qv rfl
        rw [e', e2] at e1
        injection e1 with e1
        injection e1 with _ e1 _
        exact absurd e1 (by decide)
      have E5 : Hid (EqX (w4.setCell ⟨qv, i, none⟩ (.slice va e.va.length vc)) w.heap.size (.slice none 0 0) (.slice none 0 0)) := E4.out.kept (KK _ (by have := Q12.out; omega))
      have B5 : Hid (Below w.heap.size w (w4.setCell ⟨qv, i, none⟩ (.slice va e.va.length vc))) := B4.out.setCell (by have := Q12.out; show w.heap.size ≤ qv; omega) _
      clear S4 KK O4 R4 E4 B4 VX NX
      go_wp2
      go_roundw
      case rel => exact ⟨i + 1, a4, _, k4, by omega, by go_num, rfl, O5, R5, E5, B5⟩
      case measure => simp [intOf]; omega
    · obtain rfl : N = i := by omega
      have eN : es.take N = es := List.take_of_length_le (by rw [HN.out]; exact Nat.le_refl _)
      have OF : Hid (OwnZ w.heap.size wr (.slice a m c) m (ofsQ es)) := by have := OO.out; rw [eN] at this; exact this
      have SL : Hid (Sl 1 wr (.slice (some ⟨qv, 0, none⟩) N N) (es.map Qe.vv).length (es.map Qe.vv)) := by
        have h1 := owned_sl RR.out
        have h2 : vvTo es N = es.map Qe.vv := by rw [← HN.out]; exact vvTo_all es
        rw [h2] at h1
        have h3 : (es.map Qe.vv).length = N := by rw [List.length_map, HN.out]
        rw [h3]
        exact h1
      have SP : Hid (Parts wr (es.map Qe.vv) (vasQ es)) := (qs_parts HP.out.2).below BB.out
      have OM : Hid ((ofsQ es).length ≤ 100000000) := by have := HM.out N; rw [eN] at this; exact this
      obtain ⟨w5, hw5⟩ : ∃ x, x = wr := ⟨_, rfl⟩
      subst hw5
      clear OO RR eN
      by_cases hok : AddOk size es
      · obtain ⟨hs0, hs1, hf⟩ := hok
        have HOK : Hid (AddOk size es) := ⟨hs0, hs1, hf⟩
        obtain ⟨n, rfl⟩ : ∃ n : Nat, size = n := ⟨size.toNat, by omega⟩
        simp only [Int.toNat_natCast] at hf
        obtain ⟨x, hx⟩ : ∃ x, xorAll (zeros n) (vasQ es) = x := ⟨_, rfl⟩
        obtain ⟨qs, hqs⟩ : ∃ q, w5.heap.size = q := ⟨_, rfl⟩
        have CS : Hid (Calls Try.prog 54 #[.int .i64 n, .slice (some ⟨qv, 0, none⟩) N N] w5 fun e w' => e = .returned (.tuple #[.slice (some ⟨qs, 0, none⟩) n n, .bool true]) ∧ Blk w' qs [] x [] ∧ Below w5.heap.size w5 w') := by
          have h1 := sum_yes n _ _ _ w5 (by omega) SL.out SP.out hf
          rw [hx, hqs] at h1
          rw [hqs]
          exact h1
        have QS : Hid (w.heap.size ≤ qs) := by have := BB.out.size; unfold Hid; omega
        have HX : Hid (xorAll (zeros n) (vasQ es) = x) := hx
        clear hx hqs hf
        go_wp2_with fail
        refine CS.out.mono ?_
        rintro e w6 ⟨rfl, hb, hxb⟩
        have K6 : Hid (Blk w6 qs [] x []) := hb
        have E6 : Hid (EqX w6 w.heap.size (.slice none 0 0) (.slice none 0 0)) := EE.out.below hxb
        have B6 : Hid (Below w.heap.size w w6) := on_below BB.out hxb
        have Z6 : Hid (Zs w6 (.slice a m c) (ofsQ es)) := OF.out.zs.below hxb
        clear hb hxb CS EE BB OF SL SP
        go_wp2_with fail
        refine (qodd_any (.slice a m c) (ofsQ es) w6 Z6.out (by have := OM.out; omega)).mono ?_
        rintro e w7 ⟨a7, k7, rfl, ho, hb⟩
        have K7 : Hid (Blk w7 qs [] x []) := K6.out.below hb
        have E7 : Hid (EqX w7 w.heap.size (.slice none 0 0) (.slice none 0 0)) := E6.out.below hb
        have B7 : Hid (Below w.heap.size w w7) := on_below B6.out hb
        have O7 : Hid (OwnZ w.heap.size w7 (.slice a7 (oddD (ofsQ es)).length k7) (oddD (ofsQ es)).length (oddD (ofsQ es))) := ho.mono B6.out.size
        clear ho hb K6 E6 B6 Z6
        obtain ⟨m7, hm7⟩ : ∃ x, (oddD (ofsQ es)).length = x := ⟨_, rfl⟩
        rw [hm7] at O7
        rw [hm7]
        clear hm7
        obtain ⟨c0, c1⟩ := E7.out.eqb
        have f0 := E7.out.frozen 0
        have f1 := E7.out.frozen 1
        go_wp2
        refine bodyPost_ret (ret_cell2 rfl rfl rfl ((E7.out.set0 (.slice a7 m7 k7)).set1 (.slice (some ⟨qs, 0, none⟩) n n)).eqb.load) rfl ?_
        have KK : ∀ k, k ≠ w.heap.size → ((w7.setCell ⟨w.heap.size, 0, none⟩ (.slice a7 m7 k7)).setCell ⟨w.heap.size, 1, none⟩ (.slice (some ⟨qs, 0, none⟩) n n)).heap[k]? = w7.heap[k]? := fun k hk => (Below.heap_setCell _ _ _ k hk).trans (Below.heap_setCell _ _ _ k hk)
        have kind : ∀ {q : Nat} {cs : Array Value} {t : TypeId} {fr : Nat × Nat}, w7.heap[q]? = some (.cells cs t fr) → t ≠ 41 → q ≠ w.heap.size := by
          intro q cs t fr h1 h2 e
          have h3 : w7.heap[w.heap.size]? = _ := E7.out
          rw [e, h3] at h1
          injection h1 with h1
          injection h1 with _ h1 _
          exact h2 h1.symm
        refine ⟨Or.inl ⟨HOK.out, a7, m7, k7, qs, by simp, ?_, ?_, QS.out⟩, (B7.out.setCell (Nat.le_refl _) _).setCell (Nat.le_refl _) _⟩
        · refine O7.out.kept fun q hq => KK q ?_
          obtain ⟨x1, e1⟩ := owns_type' O7.out q hq
          exact kind e1 (by decide)
        · rw [Int.toNat_natCast, HX.out]
          exact K7.out.kept (KK qs (kind K7.out (by decide)))
      · have HOK : Hid (¬ AddOk size es) := hok
        have CS : Hid (Calls Try.prog 54 #[.int .i64 size, .slice (some ⟨qv, 0, none⟩) N N] w5 fun e w' => e = .returned (.tuple #[.slice none 0 0, .bool false]) ∧ Below w5.heap.size w5 w') := by
          refine sum_no size _ _ _ w5 SL.out SP.out ?_
          by_cases h1 : size < 0
          · exact .inl h1
          · by_cases h2 : 16777216 < size
            · exact .inr (.inl h2)
            · refine .inr (.inr ?_)
              cases h3 : fitB size.toNat (vasQ es) with
              | false => rfl
              | true => exact absurd ⟨by omega, by omega, h3⟩ hok
        clear hok
        go_wp2_with fail
        refine CS.out.mono ?_
        rintro e w6 ⟨rfl, hxb⟩
        have E6 : Hid (EqX w6 w.heap.size (.slice none 0 0) (.slice none 0 0)) := EE.out.below hxb
        have B6 : Hid (Below w.heap.size w w6) := on_below BB.out hxb
        clear hxb CS EE BB OF SL SP
        obtain ⟨c0, c1⟩ := E6.out.eqb
        have f0 := E6.out.frozen 0
        have f1 := E6.out.frozen 1
        go_wp2
        refine bodyPost_ret (ret_cell2 rfl rfl rfl ((E6.out.set0 (.slice none 0 0)).set1 (.slice none 0 0)).eqb.load) rfl ?_
        exact ⟨Or.inr ⟨HOK.out, rfl⟩, (B6.out.setCell (Nat.le_refl _) _).setCell (Nat.le_refl _) _⟩

end Go.Proofs.Ytkcijbejngnalaa
