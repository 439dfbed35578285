/-
  batch: Solve.
-/
import Derived.Test.YtkckbeekehecnaaBG
import Derived.RegionTactic
import Derived.Deep.Light
namespace Go.Proofs.Ytkckbeekehecnaa
open Go.RowKit
set_option linter.unusedVariables false
set_option maxRecDepth 100000

/-- What was found. -/
structure Found (n size : Nat) (es : List Qe) (K : List Int) (V : Int → List UInt8) : Prop where
  ex : ∃ ss, K = ss.map Prod.snd ∧ Deriv ((useQ n size es).map Qe.of) ss ∧ Done ((useQ n size es).map Qe.of) (ss.map Prod.snd) ∧ Slv ((useQ n size es).map pairQ) (pairsQ (useQ n size es) ss) V

/-- What Solve answers. -/
def SolveR (n size : Nat) (es : List Qe) (w : World) (e : Ending) (w' : World) : Prop := ∃ (a : Option Addr) (m c bx vb : Nat) (us : List Value) (K : List Int) (V : Int → List UInt8) (cf : Bool), e = .returned (.agg #[.slice a m c, .slice (some ⟨vb, 0, none⟩) n n, .bool cf]) ∧ OwnZ w.heap.size w' (.slice a m c) m (kRise K n) ∧ Vs w' bx vb n size us K V ∧ Found n size es K V ∧ (cf = true ↔ ∃ e ∈ useQ n size es, FailP n K V e) ∧ Below w.heap.size w w'

def IsSome (P : Prop) : Value → World → Prop := fun v _ => ∃ b : Bool, v = .bool b ∧ (b = true ↔ P)
theorem stays_some (P : Prop) : Stays (IsSome P) := fun _ _ _ _ h => h
def IsRes0 (B vb n : Nat) (L : List Int) (P : Prop) : Value → World → Prop := fun v W => ∃ a m c b, v = .agg #[.slice a m c, .slice (some ⟨vb, 0, none⟩) n n, .bool b] ∧ OwnZ B W (.slice a m c) m L ∧ (b = true ↔ P)
theorem stays_res0 (B vb n : Nat) (L : List Int) (P : Prop) : Stays (IsRes0 B vb n L P) := fun _ _ _ hb ⟨a, m, c, b, h1, h2, h3⟩ => ⟨a, m, c, b, h1, h2.below hb, h3⟩
def IsResB (B pr vb n : Nat) (L : List Int) (P : Prop) : Value → World → Prop := fun _ W => ∃ a m c b, W.heap[pr]? = some (.cells #[.slice a m c, .slice (some ⟨vb, 0, none⟩) n n, .bool b] 33 (0, 0)) ∧ OwnZ B W (.slice a m c) m L ∧ (b = true ↔ P)
theorem stays_resB (B pr vb n : Nat) (L : List Int) (P : Prop) : Stays (IsResB B pr vb n L P) := fun _ _ _ hb ⟨a, m, c, b, h1, h2, h3⟩ => ⟨a, m, c, b, (hb.block pr (Array.getElem?_eq_some_iff.1 h1).1).trans h1, h2.below hb, h3⟩
theorem load3r {W : World} {b : Nat} {x y z : Value} (h : W.heap[b]? = some (.cells #[x, y, z] 33 (0, 0))) : (loadVar 33 ⟨b, 0, none⟩).run Try.prog W = .ok (.agg #[x, y, z]) W := by
  refine run_loadVar_mid W b 0 33 [x, y, z] _ ?_ Try.underlying33 rfl (by kernel_rfl)
  intro j v hj
  rw [Nat.zero_add]
  have hj3 : j < 3 := by have := (List.getElem?_eq_some_iff.1 hj).1; simpa using this
  match j, hj3 with
  | 0, _ => simp at hj; subst hj; simp [World.cell?, h]
  | 1, _ => simp at hj; subst hj; simp [World.cell?, h]
  | 2, _ => simp at hj; subst hj; simp [World.cell?, h]
theorem KeepsBut.then2 {S T : Nat → Prop} {a b c : World} (h : KeepsBut S a b) (k : KeepsBut T b c) (hT : ∀ z, T z → S z ∨ a.heap.size ≤ z) : KeepsBut S a c :=
  ⟨k.os.trans h.os, k.tape.trans h.tape, k.output.trans h.output, Nat.le_trans h.size k.size, fun j hj hs => (k.block j (Nat.lt_of_lt_of_le hj h.size) (fun ht => by rcases hT j ht with h1 | h1; exact hs h1; omega)).trans (h.block j hj hs)⟩
theorem KeepsBut.ofAt {B : Nat} {a b : World} (h : Below B a b) : KeepsBut (fun z => B ≤ z) a b := ⟨h.os, h.tape, h.output, h.size, fun k hk hs => h.block k (by omega)⟩
theorem owns_base0 {W : World} {B : Nat} {e : TypeId} {k n : Nat} {v : Value} {xs : List Value} (h : W.ownsRow B e k v n xs) : W.ownsRow 0 e k v n xs := by
  refine ⟨h.1, ?_⟩
  rcases h.2 with h' | ⟨g, cap, cur, hv, hg, hh, hx⟩
  · exact .inl h'
  · exact .inr ⟨g, cap, cur, hv, Nat.zero_le _, hh, hx⟩
theorem store_fn (w : World) (v : Value) (h1 : v.oneCell' = true) : (store ⟨w.heap.size, 0, none⟩ v).run Try.prog (w.alloc (.cells #[.nilFunc] 60)) = .ok () ((w.alloc (.cells #[.nilFunc] 60)).setCell ⟨w.heap.size, 0, none⟩ v) := by
  have hc : (w.alloc (.cells #[.nilFunc] 60)).cell? ⟨w.heap.size, 0, none⟩ = some .nilFunc := by rw [World.cell?_alloc_new]; rfl
  have hf : (w.alloc (.cells #[.nilFunc] 60)).frozen? ⟨w.heap.size, 0, none⟩ = false := by
    have := heap_alloc_new w (.cells #[.nilFunc] 60)
    simp only [World.frozen?, this]
    rfl
  rw [run_store Try.prog _ _ v _ h1, hc]
  simp [hf]
theorem set3r {W : World} {b : Nat} {x y z : Value} (h : W.heap[b]? = some (.cells #[x, y, z] 33 (0, 0))) (x' y' z' : Value) : (((W.setCell ⟨b, 0, none⟩ x').setCell ⟨b, 1, none⟩ y').setCell ⟨b, 2, none⟩ z').heap[b]? = some (.cells #[x', y', z'] 33 (0, 0)) := by
  have h1 := box_set h (j := 0) x'
  have h2 := box_set h1 (j := 1) y'
  have h3 := box_set h2 (j := 2) z'
  simpa using h3
theorem set3_other (W : World) (b : Nat) (x' y' z' : Value) {q : Nat} (hq : q ≠ b) : (((W.setCell ⟨b, 0, none⟩ x').setCell ⟨b, 1, none⟩ y').setCell ⟨b, 2, none⟩ z').heap[q]? = W.heap[q]? :=
  (heap_set_other _ _ _ _ hq).trans ((heap_set_other _ _ _ _ hq).trans (heap_set_other _ _ _ _ hq))
theorem Vs.frozen {W : World} {bx vb n size : Nat} {us : List Value} {K : List Int} {V : Int → List UInt8} (h : Vs W bx vb n size us K V) (j : Nat) : W.frozen? ⟨vb, j, none⟩ = false := by
  obtain ⟨cs, hc⟩ := owns_type' h.row vb rfl
  simp [World.frozen?, hc]
theorem Vs.kind {W : World} {bx vb n size : Nat} {us : List Value} {K : List Int} {V : Int → List UInt8} (h : Vs W bx vb n size us K V) : ∃ cs, W.heap[vb]? = some (.cells cs 38 (0, 0)) := owns_type' h.row vb rfl

set_option maxHeartbeats 8000000 in
/-- SOLVE. -/
theorem solve_any (n size : Nat) (pv : Value) (es : List Qe) (w : World) (hp : Qs w pv es) (hm0 : es.length ≤ 1000) (hT0 : (es.map Qe.of).flatten.length ≤ 10000) (hn : n ≤ 1000) (hs : size ≤ 1000) :
    Calls Try.prog 13 #[.int .i64 (n : Int), .int .i64 (size : Int), pv] w fun e w' => SolveR n size es w e w' := by
  obtain ⟨ib, hib, hbz, hb1, hb2⟩ := infoBs_parts
  have HP : Hid (Qs w pv es) := hp
  have HM0 : Hid (es.length ≤ 1000) := hm0
  obtain ⟨fit, hfit⟩ : ∃ fit, useQ n size es = fit := ⟨_, rfl⟩
  have HFIT : Hid (useQ n size es = fit) := hfit
  have HFT : Hid (∀ e ∈ fit, QeP w e ∧ FitI (n : Int) e.of ∧ e.va.length = size) := fun e he => by
    rw [← hfit] at he
    obtain ⟨h1, h2, h3⟩ := useQ_mem.1 he
    exact ⟨hp.2 e h1, h2, h3⟩
  have FLN : Hid (fit.length ≤ 1000) := by rw [← hfit]; exact Nat.le_trans (useQ_len n size es) hm0
  have FLT : Hid ((fit.map Qe.of).flatten.length ≤ 10000) := by
    rw [← hfit]
    refine Nat.le_trans ?_ hT0
    unfold useQ
    exact flat_sub _ es
  obtain ⟨ao, pc, rfl, hp2, hp3⟩ := hp.shape
  obtain ⟨m0, hm⟩ : ∃ m, es.length = m := ⟨_, rfl⟩
  rw [hm] at hp2 HP ⊢
  have HM : Hid (es.length = m0) := hm
  have hmax := bmax2Z (n : Int) 0
  have emax : max (n : Int) 0 = (n : Int) := by omega
  rw [emax] at hmax
  have hnI : ¬ (16777216 : Int) < (n : Int) := by omega
  clear hp hm0 hT0 hfit hm emax
  go_enter Try.func13, Try.ntmps13
  go_upto_region 4 with fail
  obtain ⟨w1, hw1⟩ : ∃ x, w.alloc (.cells #[.slice none 0 0, .slice none 0 0, .bool false] 33) = x := ⟨_, rfl⟩
  have X1 : Hid (Below w.heap.size w w1) := by rw [← hw1]; exact below_alloc _ _
  have R1 : Hid (w1.heap[w.heap.size]? = some (.cells #[.slice none 0 0, .slice none 0 0, .bool false] 33 (0, 0))) := by rw [← hw1]; exact heap_alloc_new _ _
  rw [hw1]
  clear hw1 hmax
  go_wp2_with fail
  refine (usable_any n size (.slice ao m0 pc) es w1 (HP.out.below X1.out) (by have := HM0.out; omega) (by omega) (by omega)).mono ?_
  rintro e w2 ⟨fa, mf, fc, rfl, ho, hb⟩
  rw [HFIT.out] at ho
  have O2 : Hid (OwnE w.heap.size w2 (.slice fa mf fc) mf fit) := OwnE.mono ho X1.out.size
  have X2 : Hid (Below w.heap.size w w2) := on_below X1.out hb
  have R2 : Hid (w2.heap[w.heap.size]? = some (.cells #[.slice none 0 0, .slice none 0 0, .bool false] 33 (0, 0))) := (hb.block _ (Array.getElem?_eq_some_iff.1 R1.out).1).trans R1.out
  clear ho hb X1 R1
  go_upto_region 6 with (at_make; refine wpList_make_full _ rfl _ _ 23 rfl w.heap.size 38 ib (.slice none 0 0) 1 Try.underlying23 hib hbz hb1 _ _ _ _ n rfl rfl rfl rfl (by rw [hb2]; omega) (by unfold maxLen; omega) X2.out.size ?_; intro w3 ho3 hg3)
  obtain ⟨vb, hvb⟩ : ∃ x, w2.heap.size = x := ⟨_, rfl⟩
  rw [hvb] at ho3 ⊢
  have HVB : Hid (w.heap.size ≤ vb) := by have := X2.out.size; unfold Hid; omega
  have V4 : Hid (Vs (w3.alloc (.cells #[.slice (some ⟨vb, 0, none⟩) n n] 23)) w3.heap.size vb n size (List.replicate n (.slice none 0 0)) [] (fun _ => [])) := Vs.start (owns_base0 ho3)
  have Y23 := below_fresh hg3
  have Y34 := below_alloc w3 (.cells #[.slice (some ⟨vb, 0, none⟩) n n] 23)
  have O4 : Hid (OwnE w.heap.size (w3.alloc (.cells #[.slice (some ⟨vb, 0, none⟩) n n] 23)) (.slice fa mf fc) mf fit) := (OwnE.below O2.out Y23).below Y34
  have X4 : Hid (Below w.heap.size w (w3.alloc (.cells #[.slice (some ⟨vb, 0, none⟩) n n] 23))) := on_below (on_below X2.out Y23) Y34
  have R4 : Hid ((w3.alloc (.cells #[.slice (some ⟨vb, 0, none⟩) n n] 23)).heap[w.heap.size]? = some (.cells #[.slice none 0 0, .slice none 0 0, .bool false] 33 (0, 0))) := by
    have h1 := (Y23.block _ (Array.getElem?_eq_some_iff.1 R2.out).1).trans R2.out
    exact (Y34.block _ (Array.getElem?_eq_some_iff.1 h1).1).trans h1
  obtain ⟨w4, hw4⟩ : ∃ x, w3.alloc (.cells #[.slice (some ⟨vb, 0, none⟩) n n] 23) = x := ⟨_, rfl⟩
  rw [hw4] at V4 O4 X4 R4 ⊢
  obtain ⟨bx, hbx⟩ : ∃ x, w3.heap.size = x := ⟨_, rfl⟩
  rw [hbx] at V4 ⊢
  clear hw4 hbx hvb ho3 hg3 Y23 Y34 O2 X2 R2
  have sf := store_fn w4 (.func (.func 27) #[] #[.pointer (some ⟨bx, 0, none⟩)]) rfl
  go_upto_region 7 with fail
  obtain ⟨w5, hw5⟩ : ∃ x, w4.alloc (.cells #[.func (.func 27) #[] #[.pointer (some ⟨bx, 0, none⟩)]] 60) = x := ⟨_, rfl⟩
  have Y45 : Below w4.heap.size w4 w5 := by rw [← hw5]; exact below_alloc _ _
  have K5 : Hid (w5.heap[w4.heap.size]? = some (.cells #[.func (.func 27) #[] #[.pointer (some ⟨bx, 0, none⟩)]] 60 (0, 0))) := by rw [← hw5]; exact heap_alloc_new _ _
  clear sf
  have V5 : Hid (Vs w5 bx vb n size (List.replicate n (.slice none 0 0)) [] (fun _ => [])) := V4.out.below Y45
  have O5 : Hid (OwnE w.heap.size w5 (.slice fa mf fc) mf fit) := OwnE.below O4.out Y45
  have X5 : Hid (Below w.heap.size w w5) := on_below X4.out Y45
  have R5 : Hid (w5.heap[w.heap.size]? = some (.cells #[.slice none 0 0, .slice none 0 0, .bool false] 33 (0, 0))) := (Y45.block _ (Array.getElem?_eq_some_iff.1 R4.out).1).trans R4.out
  rw [hw5]
  obtain ⟨kb, hkb⟩ : ∃ x, w4.heap.size = x := ⟨_, rfl⟩
  rw [hkb] at K5 ⊢
  obtain ⟨KF, hKF⟩ : ∃ x, Value.func (.func 27) #[] #[.pointer (some ⟨bx, 0, none⟩)] = x := ⟨_, rfl⟩
  have HKF : Hid (Value.func (.func 27) #[] #[.pointer (some ⟨bx, 0, none⟩)] = KF) := hKF
  rw [hKF] at K5 ⊢
  clear hKF
  clear hw5 hkb Y45 V4 O4 X4 R4
  have QFP : Hid (∀ W, (∀ (q : Nat) (cs' : Array Value) (t : TypeId), t ≠ 38 → t ≠ 33 → w5.heap[q]? = some (.cells cs' t (0, 0)) → W.heap[q]? = some (.cells cs' t (0, 0))) → Below w.heap.size w W → Qs W (.slice fa mf fc) fit ∧ W.heap[kb]? = some (.cells #[KF] 60 (0, 0))) := fun W hk hbw =>
    ⟨OwnE.qs (OwnE.kept O5.out fun q hq => by obtain ⟨cs', hc'⟩ := OwnE.kind O5.out hq; exact (hk q cs' _ (by decide) (by decide) hc').trans hc'.symm) (fun e he => (HFT.out e he).1.below hbw), hk _ _ _ (by decide) (by decide) K5.out⟩
  have FRK : Hid (∀ W, KeepsBut (fun z => z = vb ∨ w5.heap.size ≤ z) w5 W → (∀ (q : Nat) (cs' : Array Value) (t : TypeId), t ≠ 38 → w5.heap[q]? = some (.cells cs' t (0, 0)) → W.heap[q]? = some (.cells cs' t (0, 0))) ∧ Below w.heap.size w W) := fun W hW => by
    obtain ⟨cs, hc⟩ := V5.out.kind
    refine ⟨fun q cs' t ht hq => (hW.block q (Array.getElem?_eq_some_iff.1 hq).1 (by
      rintro (h1 | h1)
      · exact heap_ne hq hc ht h1
      · have := (Array.getElem?_eq_some_iff.1 hq).1
        omega)).trans hq, X5.out.trans (hW.below X5.out.size (by
      rintro k (h1 | h1)
      · have := HVB.out; omega
      · have := X5.out.size; omega))⟩
  have FRP : Hid (∀ W, KeepsBut (fun z => z = vb ∨ w5.heap.size ≤ z) w5 W → Qs W (.slice fa mf fc) fit ∧ W.heap[w.heap.size]? = some (.cells #[.slice none 0 0, .slice none 0 0, .bool false] 33 (0, 0)) ∧ W.heap[kb]? = some (.cells #[KF] 60 (0, 0)) ∧ Below w.heap.size w W) := fun W hW => by
    obtain ⟨hk, hbw⟩ := FRK.out W hW
    obtain ⟨h1, h2⟩ := QFP.out W (fun q cs' t ht _ hq => hk q cs' t ht hq) hbw
    exact ⟨h1, hk _ _ _ (by decide) R5.out, h2, hbw⟩
  have QF5 := (FRP.out w5 (KeepsBut.refl _ _)).1
  have MF : Hid (fit.length = mf) := OwnE.len O5.out
  have HND : Hid (∀ l ∈ fit.map Qe.of, l.Nodup) := fun l hl => by
    obtain ⟨e, he, rfl⟩ := List.mem_map.1 hl
    exact (HFT.out e he).2.1.nodup
  have HR0 : Hid (∀ l ∈ fit.map Qe.of, ∀ x ∈ l, 0 ≤ x ∧ x < (n : Int)) := fun l hl => by
    obtain ⟨e, he, rfl⟩ := List.mem_map.1 hl
    exact (HFT.out e he).2.1.2
  have LV : Hid (vb < w5.heap.size) := by obtain ⟨cs, hc⟩ := V5.out.kind; exact (Array.getElem?_eq_some_iff.1 hc).1
  have OF5 : Hid (OwnE w.heap.size w5 (.slice fa mf fc) mf fit) := O5.out
  obtain ⟨csv5, hcsv5⟩ := V5.out.kind
  have KV5 : Hid (w5.heap[vb]? = some (.cells csv5 38 (0, 0))) := hcsv5
  clear O5 K5 R5 hcsv5
  go_wp2_with fail
  refine (waitingOf_any (.slice fa mf fc) fit w5 QF5 (by have := FLN.out; omega) (by have := FLT.out; omega) (fun l hl => ⟨HND.out l hl, fun x hx => by have := HR0.out l hl x hx; omega⟩)).mono ?_
  rintro e w6 ⟨p, s0, rfl, hwt, hrun, hss, hb⟩
  have V6 : Hid (Vs w6 bx vb n size (List.replicate n (.slice none 0 0)) [] (fun _ => [])) := V5.out.below hb
  have F6 : Hid (KeepsBut (fun z => z = vb ∨ w5.heap.size ≤ z) w5 w6) := KeepsBut.ofBelow hb
  have B56 : Hid (w5.heap.size ≤ w6.heap.size) := hb.size
  obtain ⟨fl, hfl⟩ : ∃ fl, fit.map Qe.of = fl := ⟨_, rfl⟩
  have HFL : Hid (fit.map Qe.of = fl) := hfl
  rw [hfl] at hrun
  have FLm : Hid (fl.length = mf) := by unfold Hid; rw [← hfl, List.length_map]; exact MF.out
  have S6 : Hid (Wt w5.heap.size w6 p s0) := hwt
  have R6 : Hid (Run fl (.bool true) s0) := hrun
  have SS0 : Hid (s0.ss = []) := hss
  clear QF5 hwt hrun hss hb hfl V5
  go_upto_region 8 with fail
  go_wp2_with fail
  refine (wnext_any w5.heap.size p s0 w6 fl (.bool true) S6.out R6.out).mono ?_
  rintro e w7 ⟨q7, b7, v7, F7, rfl, hwt, hbt, hbf, hb7, hk7⟩
  obtain ⟨lb, hlb⟩ : ∃ x, s0.lb = x := ⟨_, rfl⟩
  have S7 : Hid (Wt w5.heap.size w7 p { s0 with fsv := v7, FF := F7 }) := hwt
  have T7 : Hid (b7 = true → q7 < fl.length ∧ Run fl (.bool true) { s0 with fsv := v7, FF := F7 ++ [(q7 : Int)] }) := fun h => ⟨(hbt h).2, R6.out.fs v7 (F7 ++ [(q7 : Int)]) (hbt h).1⟩
  have N7 : Hid (b7 = false → Run fl (.bool true) { s0 with fsv := v7, FF := F7 } ∧ F7 = []) := fun h => ⟨R6.out.fs v7 F7 (by rw [(hbf h).1, (hbf h).2]), (hbf h).2⟩
  have M7 : Hid (s0.m = mf ∧ s0.lb = lb) := ⟨by rw [R6.out.m]; exact FLm.out, hlb⟩
  have V7 : Hid (Vs w7 bx vb n size (List.replicate n (.slice none 0 0)) (kn { s0 with fsv := v7, FF := F7 }) (fun _ => [])) := by
    unfold Hid kn
    rw [SS0.out]
    exact V6.out.keepT hk7
  have L7 : Hid (Slv (fit.map pairQ) (pairsQ fit s0.ss) (fun _ => [])) := by
    unfold Hid
    rw [SS0.out]
    exact Slv.nil _ _
  have FR7 : Hid (KeepsBut (fun z => z = vb ∨ w5.heap.size ≤ z) w5 w7) := F6.out.then2 (KeepsBut.ofAt hb7) (fun z hz => .inl (.inr hz))
  clear hwt hbt hbf hb7 hk7 hlb S6 R6 V6 F6 SS0 B56
  go_wp2
  go_loopw [10, 11] (fun ev tv wr => ∃ (q : Nat) (b : Bool) (s : SpS) (us : List Value) (V : Int → List UInt8), ev = .int .i64 q ∧ tv = .bool b ∧ Hid (Wt w5.heap.size wr p s) ∧ Hid (b = true → q < fl.length ∧ Run fl (.bool true) { s with FF := s.FF ++ [(q : Int)] }) ∧ Hid (b = false → Run fl (.bool true) s ∧ s.FF = []) ∧ Hid (s.m = mf ∧ s.lb = lb) ∧ Hid (Vs wr bx vb n size us (kn s) V) ∧ Hid (Slv (fit.map pairQ) (pairsQ fit s.ss) V) ∧ Hid (KeepsBut (fun z => z = vb ∨ w5.heap.size ≤ z) w5 wr)) (fun _ tv wr => oneT tv + muT p lb mf wr)
  case atStart => exact ⟨q7, b7, { s0 with fsv := v7, FF := F7 }, _, _, rfl, rfl, S7, T7, N7, M7, V7, L7, FR7⟩
  case round =>
    clear S7 T7 N7 M7 V7 L7 FR7
    obtain ⟨q, b, s, us, V, rfl, rfl, SS, HT, HN, HM1, VV, LL, FR⟩ := hrel
    obtain ⟨QW, RW, KW, BW⟩ := FRP.out wr FR.out
    cases b with
    | true =>
      obtain ⟨hq, R⟩ := HT.out rfl
      have RR : Hid (Run fl (.bool true) { s with FF := s.FF ++ [(q : Int)] }) := R
      have hqm : q < mf := by rw [← FLm.out]; exact hq
      obtain ⟨e, he⟩ : ∃ e, fit[q]? = some e := ⟨_, List.getElem?_eq_getElem (by rw [MF.out]; exact hqm)⟩
      have HE : Hid (fit[q]? = some e) := he
      have HLq : Hid (fl[q]? = some e.of) := by unfold Hid; rw [← HFL.out, List.getElem?_map, he]; rfl
      have HQE : Hid (QeP w e ∧ FitI (n : Int) e.of ∧ e.va.length = size) := HFT.out e (List.mem_of_getElem? he)
      have HOL : Hid (e.of.length ≤ 10000) := by have h1 := flat_le HLq.out; rw [← HFL.out] at h1; exact Nat.le_trans h1 FLT.out
      obtain ⟨fb, fo, rfl, g0, g1⟩ := Qs.at QW (Below.refl _ _) he
      have BWH : Hid (Below w.heap.size w wr) := BW
      have CE0 : Hid (∀ W, Below wr.heap.size wr W → W.cell? ⟨fb, fo + q * 2, none⟩ = some e.ov) := fun W hW => (hW.cell (cell_block_lt g0)).trans g0
      have CE1 : Hid (∀ W, Below wr.heap.size wr W → W.cell? ⟨fb, fo + q * 2 + 1, none⟩ = some e.vv) := fun W hW => (hW.cell (cell_block_lt g1)).trans g1
      have CKB : Hid (∀ W, Below wr.heap.size wr W → W.cell? ⟨kb, 0, none⟩ = some (KF)) := fun W hW => by
        have h1 : wr.cell? ⟨kb, 0, none⟩ = some (KF) := by simp [World.cell?, KW]
        exact (hW.cell (cell_block_lt h1)).trans h1
      obtain ⟨L, hL⟩ : ∃ L, leftZ (kn s) e.of = L := ⟨_, rfl⟩
      have HLL : Hid (leftZ (kn s) e.of = L) := hL
      have CL : Hid (∀ W, Below wr.heap.size wr W → Calls Try.prog 30 #[.agg #[e.ov, e.vv], KF] W fun e' w' => ∃ v, e' = .returned v ∧ IsLz wr.heap.size L v w' ∧ Below W.heap.size W w') := fun W hW => by
        rw [← HKF.out]
        refine (bleft_any e.ov e.vv e.of bx vb n size us (kn s) V W (HQE.out.1.1.below (on_below BWH.out hW)) (VV.out.below hW) HQE.out.2.1.2 (by omega) (by have := HOL.out; omega)).mono ?_
        rintro e' w' ⟨a, m, c, rfl, ho, hb⟩
        rw [HLL.out] at ho
        exact ⟨_, rfl, ⟨a, m, c, rfl, ho.mono hW.size⟩, hb⟩
      have MU0 : Hid (muT p lb mf wr = s.FF.length + 2 * cnt2 mf s.h) := muT_eq SS.out HM1.out.1 HM1.out.2
      clear hq R he hL QW RW KW BW g0 g1 HT HN
      go_upto_region 11 with fail
      refine wp_region_any (by kernel_rfl) ?_
      obtain ⟨gs, hgs⟩ : ∃ gs : List (Value → World → Prop), gs = [IsV (Value.slice (some { block := fb, off := fo }) mf fc), IsV (Value.int IntKind.i64 ↑q), IsV (.pointer (some ⟨fb, fo + q * 2, none⟩)), IsV (.agg #[e.ov, e.vv]), IsV (KF), IsAnyV, IsAnyV] := ⟨_, rfl⟩
      have g0 : Hid (gs[0]? = some (IsV (Value.slice (some { block := fb, off := fo }) mf fc))) := by unfold Hid; rw [hgs]; rfl
      have g1 : Hid (gs[1]? = some (IsV (Value.int IntKind.i64 ↑q))) := by unfold Hid; rw [hgs]; rfl
      have g2 : Hid (gs[2]? = some (IsV (.pointer (some ⟨fb, fo + q * 2, none⟩)))) := by unfold Hid; rw [hgs]; rfl
      have g3 : Hid (gs[3]? = some (IsV (.agg #[e.ov, e.vv]))) := by unfold Hid; rw [hgs]; rfl
      have g4 : Hid (gs[4]? = some (IsV (KF))) := by unfold Hid; rw [hgs]; rfl
      have g5 : Hid (gs[5]? = some (IsAnyV)) := by unfold Hid; rw [hgs]; rfl
      have g6 : Hid (gs[6]? = some (IsAnyV)) := by unfold Hid; rw [hgs]; rfl
      have gk : Hid (∀ p ∈ gs, ∀ v (U U' : World), p v U → p v U') := by
        unfold Hid
        rw [hgs]
        simp only [List.forall_mem_cons]
        exact ⟨(fun _ _ _ h => h), (fun _ _ _ h => h), (fun _ _ _ h => h), (fun _ _ _ h => h), (fun _ _ _ h => h), (fun _ _ _ h => h), (fun _ _ _ h => h), by simp⟩
      clear hgs
      have JS : Hid (∀ WA WA', Below WA.heap.size WA WA' → (fun WA => Below wr.heap.size wr WA) WA → (fun WA => Below wr.heap.size wr WA) WA') := fun WA WA' hb h => h.trans (hb.mono h.size)
      have st5 : Hid (Stays (IsLz wr.heap.size L)) := stays_lz _ _
      have st6 : Hid (Stays (IsLz wr.heap.size L)) := stays_lz _ _
      refine wpAny_inv4 (fun listed ac WA => ∃ xvA : Nat → Value, ac = ⟨#[Value.int IntKind.i64 ↑n, Value.int IntKind.i64 ↑size, Value.slice (some { block := fb, off := fo }) mf fc, undef, undef, undef, Value.pointer (some { block := w.heap.size, off := 0 }), Value.pointer (some { block := bx, off := 0 }), Value.pointer (some { block := kb, off := 0 }), Value.pointer (some { block := p, off := 0 }), Value.int IntKind.i64 ↑q, Value.bool true, xvA 6, undef, Value.int IntKind.i64 ↑n, Value.int IntKind.i64 ↑n, Value.int IntKind.i64 ↑n, Value.bool false, undef, Value.int IntKind.i64 ↑n, Value.int IntKind.i64 ↑size, Value.slice ao m0 pc, Value.slice (some { block := fb, off := fo }) mf fc, Value.int IntKind.i64 ↑n, Value.slice (some { block := vb, off := 0 }) n n, KF, Value.slice (some { block := fb, off := fo }) mf fc, Value.pointer (some { block := p, off := 0 }), Value.tuple #[Value.int IntKind.i64 ↑q7, Value.bool b7], Value.pointer (some { block := p, off := 0 }), Value.tuple #[Value.int IntKind.i64 ↑q7, Value.bool b7], Value.int IntKind.i64 ↑q7, Value.bool b7, Value.bool true, u34, u35, u36, u37, u38, xvA 0, xvA 1, xvA 2, xvA 3, xvA 4, xvA 5, u45, u46, u47, u48, u49, u50, u51, u52, u53, u54, u55, u56, u57, u58, u59, u60, u61, u62, u63, undef, undef, undef, undef, undef, undef, undef, undef, undef], []⟩ ∧ (fun WA => Below wr.heap.size wr WA) WA ∧ Lst gs listed xvA WA ∧ Fe listed xvA WA 5 (IsLz wr.heap.size L) ∧ Fe listed xvA WA 6 (IsLz wr.heap.size L)) (by kernel_rfl) ?_ ?_ _ _ _ _ (by kernel_rfl) (of_decide_eq_true (by kernel_rfl)) (Down.start _) ⟨fun jx => if jx = 0 then u39 else if jx = 1 then u40 else if jx = 2 then u41 else if jx = 3 then u42 else if jx = 4 then u43 else if jx = 5 then u44 else if jx = 6 then u12 else undef, rfl, below0 _, Lst.start _ _ _ _, Fe.start _ _ _ _ _, Fe.start _ _ _ _ _⟩
      · go_light
        rintro listed ac WA ⟨xvA, rfl, hb, hG, hF5, hF6⟩ hD i hi hnl hd
        have hin : i < 7 := hi
        clear hi
        have hcase : i = 0 ∨ i = 1 ∨ i = 2 ∨ i = 3 ∨ i = 4 ∨ i = 5 ∨ i = 6 := by omega
        rcases hcase with rfl | rfl | rfl | rfl | rfl | rfl | rfl
        · refine wpOp_step rfl (fun K' hK => ?_)
          clear hd hin hD
          go_simp
          exact hK _ _ ⟨updV xvA 0 (Value.slice (some { block := fb, off := fo }) mf fc), by simp [updV], hb, hG.any gk.out g0.out _ rfl, hF5.step (fun _ h => h) (by decide) _, hF6.step (fun _ h => h) (by decide) _⟩
        · refine wpOp_step rfl (fun K' hK => ?_)
          clear hd hin hD
          go_simp
          exact hK _ _ ⟨updV xvA 1 (Value.int IntKind.i64 ↑q), by simp [updV], hb, hG.any gk.out g1.out _ rfl, hF5.step (fun _ h => h) (by decide) _, hF6.step (fun _ h => h) (by decide) _⟩
        · refine wpOp_step rfl (fun K' hK => ?_)
          simp [Region.binds] at hd
          have e0 : xvA 0 = Value.slice (some { block := fb, off := fo }) mf fc := hG.get g0.out (by simp [hd])
          have e1 : xvA 1 = Value.int IntKind.i64 ↑q := hG.get g1.out (by simp [hd])
          clear hd hin hD
          go_simp
          exact hK _ _ ⟨updV xvA 2 (.pointer (some ⟨fb, fo + q * 2, none⟩)), by simp [updV, e0, e1], hb, hG.any gk.out g2.out _ rfl, hF5.step (fun _ h => h) (by decide) _, hF6.step (fun _ h => h) (by decide) _⟩
        · refine wpOp_step rfl (fun K' hK => ?_)
          simp [Region.binds] at hd
          have e2 : xvA 2 = .pointer (some ⟨fb, fo + q * 2, none⟩) := hG.get g2.out (by simp [hd])
          have cz0 := CE0.out WA hb
          have cz1 := CE1.out WA hb
          clear hd hin hD
          go_simp
          exact hK _ _ ⟨updV xvA 3 (.agg #[e.ov, e.vv]), by simp [updV, e2], hb, hG.any gk.out g3.out _ rfl, hF5.step (fun _ h => h) (by decide) _, hF6.step (fun _ h => h) (by decide) _⟩
        · refine wpOp_step rfl (fun K' hK => ?_)
          have ck := CKB.out WA hb
          clear hd hin hD
          go_simp
          exact hK _ _ ⟨updV xvA 4 (KF), by simp [updV], hb, hG.any gk.out g4.out _ rfl, hF5.step (fun _ h => h) (by decide) _, hF6.step (fun _ h => h) (by decide) _⟩
        · refine wpOp_step rfl (fun K' hK => ?_)
          simp [Region.binds] at hd
          have e3 : xvA 3 = .agg #[e.ov, e.vv] := hG.get g3.out (by simp [hd])
          have e4 : xvA 4 = KF := hG.get g4.out (by simp [hd])
          clear hd hin hD
          go_simp
          refine (CL.out WA hb).mono ?_
          rintro e w' ⟨v, rfl, hv, hb'⟩
          go_wp2_with fail
          exact ⟨updV xvA 5 v, by simp [updV, e3, e4], JS.out _ _ hb' hb, hG.any gk.out g5.out v trivial, Fe.new (hv), hF6.on st6.out hb' (by decide) _⟩
        · refine wpOp_step rfl (fun K' hK => ?_)
          simp [Region.binds] at hd
          have l5 : listed.getD 5 false = true := by simp [hd]
          have m5 := hF5 l5
          clear hd hin hD
          go_simp
          exact hK _ _ ⟨updV xvA 6 (xvA 5), by simp [updV], hb, hG.any gk.out g6.out _ trivial, hF5.step (fun _ h => h) (by decide) _, Fe.new (m5)⟩
      · rintro listed ac WA ⟨xvA, rfl, hb, hG, hF5, hF6⟩ hall
        have m6 : Hid ((IsLz wr.heap.size L) (xvA 6) WA) := hF6 (hall 6 (by decide))
        have XW : Hid ((fun WA => Below wr.heap.size wr WA) WA) := hb
        clear hall hG hb gk JS g0 g1 g2 g3 g4 g5 g6 hF5 st5 hF6 st6
        obtain ⟨la, lm, lc, e6, hL8⟩ := m6.out
        rw [e6]
        obtain ⟨w8, hw8⟩ : ∃ x, x = WA := ⟨_, rfl⟩
        subst hw8
        have LF : Hid (OwnZ wr.heap.size w8 (.slice la lm lc) lm L) := hL8
        have S8 : Hid (Wt w5.heap.size w8 p s) := SS.out.below XW.out
        have V8 : Hid (Vs w8 bx vb n size us (kn s) V) := VV.out.below XW.out
        have FR8 : Hid (KeepsBut (fun z => z = vb ∨ w5.heap.size ≤ z) w5 w8) := FR.out.trans (KeepsBut.ofBelow XW.out)
        have BW8 : Hid (Below w.heap.size w w8) := on_below BWH.out XW.out
        have CE8 : Hid (w8.cell? ⟨fb, fo + q * 2, none⟩ = some e.ov ∧ w8.cell? ⟨fb, fo + q * 2 + 1, none⟩ = some e.vv) := ⟨CE0.out w8 XW.out, CE1.out w8 XW.out⟩
        have SZ8 : Hid (w5.heap.size ≤ w8.heap.size) := FR8.out.size
        have HLM : Hid (L.length = lm) := LF.out.len
        have HHQ : Hid (s.h q = (lm : Int)) := by
          have h1 := RR.out.h q e.of HLq.out
          have h2 : kn { s with FF := s.FF ++ [(q : Int)] } = kn s := rfl
          rw [h2, HLL.out, HLM.out] at h1
          exact h1
        clear m6 e6 hL8 XW SS VV FR CE0 CE1 CKB CL
        by_cases h1 : lm = 1
        · subst h1
          obtain ⟨z, l', hl', hLz, hrq, hz0, hzl, hzk⟩ := RR.out.last (fun l hl x hx => (HR0.out l (by rw [HFL.out]; exact hl) x hx).1) (by rw [FLm.out]; exact hqm) HHQ.out
          have el' : l' = e.of := by have h2 := HLq.out; rw [hl'] at h2; exact Option.some.inj h2
          subst el'
          have hzn := (HQE.out.2.1.2 z hzl).2
          have HLz : Hid (L = [z]) := by
            have h2 : leftZ (kn s) e.of = [z] := hLz
            rw [HLL.out] at h2
            exact h2
          have HZK : Hid (z ∉ kn s) := hzk
          have HRQ : Hid (s.r q = z) := hrq
          have HLL2 : Hid (leftZ (kn s) e.of = [z]) := hLz
          obtain ⟨iz, rfl⟩ : ∃ k : Nat, z = k := ⟨z.toNat, by omega⟩
          have hizn : iz < n := by omega
          have wz : (Lit.int .i64 (iz : Int)).wf = true := wf_i64 (by omega) (by omega)
          have L0 : Hid (OwnZ wr.heap.size w8 (.slice la 1 lc) 1 [(iz : Int)]) := by
            have h2 := LF.out
            rw [HLz.out] at h2
            exact h2
          obtain ⟨gl, ol, rfl, cl0⟩ := zs_at L0.out.zs (Below.refl _ _) (show [(iz : Int)][0]? = some (iz : Int) from rfl)
          obtain ⟨X, hX⟩ : ∃ X, xorAll e.va ((knZ (kn s) e.of).map V) = X := ⟨_, rfl⟩
          have HXX : Hid (xorAll e.va ((knZ (kn s) e.of).map V) = X) := hX
          obtain ⟨csv, hcsv⟩ := V8.out.kind
          have HKV : Hid (w8.heap[vb]? = some (.cells csv 38 (0, 0))) := hcsv
          have CT : Hid (∀ (W : World) (k : Nat) (cs : Array Value) (t : TypeId), KeepsBut (fun z => z = vb) w8 W → t ≠ 38 → w8.heap[k]? = some (.cells cs t (0, 0)) → W.heap[k]? = some (.cells cs t (0, 0))) := fun W k cs t hW ht hk => (hW.block k (Array.getElem?_eq_some_iff.1 hk).1 (fun e1 => heap_ne hk HKV.out ht e1)).trans hk
          have CBX : Hid (∀ W, KeepsBut (fun z => z = vb) w8 W → W.cell? ⟨bx, 0, none⟩ = some (.slice (some ⟨vb, 0, none⟩) n n)) := fun W hW => by
            have h2 := CT.out W bx _ _ hW (by decide) V8.out.box
            simp [World.cell?, h2]
          have CLF : Hid (∀ W, KeepsBut (fun z => z = vb) w8 W → W.cell? ⟨gl, ol, none⟩ = some (.int .i64 (iz : Int))) := fun W hW => by
            obtain ⟨cs, hc⟩ := L0.out.kind (q := gl) rfl
            have h2 := CT.out W gl _ _ hW (by decide) hc
            have h3 : w8.cell? ⟨gl, ol, none⟩ = some (.int .i64 (iz : Int)) := cl0
            exact (World.cell?_of_block (a := ⟨gl, ol, none⟩) (h2.trans hc.symm)).trans h3
          have CE : Hid (∀ W, KeepsBut (fun z => z = vb) w8 W → W.cell? ⟨fb, fo + q * 2, none⟩ = some e.ov ∧ W.cell? ⟨fb, fo + q * 2 + 1, none⟩ = some e.vv) := fun W hW => by
            have hq2 := (FRP.out w8 FR8.out).1
            have hfb : fb ≠ vb := by
              intro e1
              obtain ⟨cs, hc⟩ := OwnE.kind OF5.out (q := fb) rfl
              exact heap_ne hc KV5.out (by decide) e1
            have hlt := cell_block_lt CE8.out.1
            exact ⟨(World.cell?_of_block (a := ⟨fb, fo + q * 2, none⟩) (hW.block fb hlt hfb)).trans CE8.out.1, (World.cell?_of_block (a := ⟨fb, fo + q * 2 + 1, none⟩) (hW.block fb hlt hfb)).trans CE8.out.2⟩
          have C9 : Hid (∀ W, Vs W bx vb n size us (kn s) V → KeepsBut (fun z => z = vb) w8 W → Calls Try.prog 31 #[.agg #[e.ov, e.vv], .slice (some ⟨vb, 0, none⟩) n n] W fun e' w' => ∃ v, e' = .returned v ∧ IsRst w8.heap.size size X v w' ∧ Below W.heap.size W w') := fun W hV hW => by
            have hbw : Below w.heap.size w W := BW8.out.trans (hW.below BW8.out.size (fun k hk => by have := HVB.out; omega))
            refine (brest_any e.ov e.vv e.of e.va bx vb n size us (kn s) V W (HQE.out.1.1.below hbw) (HQE.out.1.2.below hbw) hV HQE.out.2.1.2 (by omega) HQE.out.2.2 (by omega) (by have := HOL.out; omega)).mono ?_
            rintro e' w' ⟨qr, cr, rfl, ho, hb⟩
            rw [HXX.out] at ho
            exact ⟨_, rfl, ⟨qr, cr, rfl, OwB.mono ho hW.size⟩, hb⟩
          clear hl' hLz hrq hz0 hzl hzk cl0 hX hcsv hzn
          go_upto_region 13 with fail
          refine wp_region_any (by kernel_rfl) ?_
          obtain ⟨gs, hgs⟩ : ∃ gs : List (Value → World → Prop), gs = [IsV (.slice (some ⟨vb, 0, none⟩) n n), IsV (Value.slice (some { block := gl, off := ol }) 1 lc), IsV (.pointer (some ⟨gl, ol, none⟩)), IsV (.int .i64 (iz : Int)), IsV (Value.slice (some { block := fb, off := fo }) mf fc), IsV (Value.int IntKind.i64 ↑q), IsV (.pointer (some ⟨fb, fo + q * 2, none⟩)), IsV (.agg #[e.ov, e.vv]), IsV (.slice (some ⟨vb, 0, none⟩) n n), IsAnyV, IsV (.pointer (some ⟨vb, iz, none⟩)), IsAnyV] := ⟨_, rfl⟩
          have g0 : Hid (gs[0]? = some (IsV (.slice (some ⟨vb, 0, none⟩) n n))) := by unfold Hid; rw [hgs]; rfl
          have g1 : Hid (gs[1]? = some (IsV (Value.slice (some { block := gl, off := ol }) 1 lc))) := by unfold Hid; rw [hgs]; rfl
          have g2 : Hid (gs[2]? = some (IsV (.pointer (some ⟨gl, ol, none⟩)))) := by unfold Hid; rw [hgs]; rfl
          have g3 : Hid (gs[3]? = some (IsV (.int .i64 (iz : Int)))) := by unfold Hid; rw [hgs]; rfl
          have g4 : Hid (gs[4]? = some (IsV (Value.slice (some { block := fb, off := fo }) mf fc))) := by unfold Hid; rw [hgs]; rfl
          have g5 : Hid (gs[5]? = some (IsV (Value.int IntKind.i64 ↑q))) := by unfold Hid; rw [hgs]; rfl
          have g6 : Hid (gs[6]? = some (IsV (.pointer (some ⟨fb, fo + q * 2, none⟩)))) := by unfold Hid; rw [hgs]; rfl
          have g7 : Hid (gs[7]? = some (IsV (.agg #[e.ov, e.vv]))) := by unfold Hid; rw [hgs]; rfl
          have g8 : Hid (gs[8]? = some (IsV (.slice (some ⟨vb, 0, none⟩) n n))) := by unfold Hid; rw [hgs]; rfl
          have g9 : Hid (gs[9]? = some (IsAnyV)) := by unfold Hid; rw [hgs]; rfl
          have g10 : Hid (gs[10]? = some (IsV (.pointer (some ⟨vb, iz, none⟩)))) := by unfold Hid; rw [hgs]; rfl
          have g11 : Hid (gs[11]? = some (IsAnyV)) := by unfold Hid; rw [hgs]; rfl
          have gk : Hid (∀ p ∈ gs, ∀ v (U U' : World), p v U → p v U') := by
            unfold Hid
            rw [hgs]
            simp only [List.forall_mem_cons]
            exact ⟨(fun _ _ _ h => h), (fun _ _ _ h => h), (fun _ _ _ h => h), (fun _ _ _ h => h), (fun _ _ _ h => h), (fun _ _ _ h => h), (fun _ _ _ h => h), (fun _ _ _ h => h), (fun _ _ _ h => h), (fun _ _ _ h => h), (fun _ _ _ h => h), (fun _ _ _ h => h), by simp⟩
          clear hgs
          have JS : Hid (∀ WB WB', Below WB.heap.size WB WB' → (fun WB => KeepsBut (fun z => z = vb) w8 WB) WB → (fun WB => KeepsBut (fun z => z = vb) w8 WB) WB') := fun WB WB' hb h => h.trans (KeepsBut.ofBelow hb)
          have st9 : Hid (Stays (IsRst w8.heap.size size X)) := stays_rst _ _ _
          have st11 : Hid (Stays (IsPutV vb n iz size us X)) := stays_putv _ _ _ _ _ _
          have su11 : Hid (∀ WB WB', Below WB.heap.size WB WB' → (fun WB => Vs WB bx vb n size us (kn s) V) WB → (fun WB => Vs WB bx vb n size us (kn s) V) WB') := fun WB WB' hb h => h.below hb
          refine wpAny_inv4 (fun listed ac WB => ∃ xvB : Nat → Value, ac = ⟨#[Value.int IntKind.i64 ↑n, Value.int IntKind.i64 ↑size, Value.slice (some { block := fb, off := fo }) mf fc, undef, undef, undef, Value.pointer (some { block := w.heap.size, off := 0 }), Value.pointer (some { block := bx, off := 0 }), Value.pointer (some { block := kb, off := 0 }), Value.pointer (some { block := p, off := 0 }), Value.int IntKind.i64 ↑q, Value.bool true, Value.slice (some { block := gl, off := ol }) 1 lc, undef, Value.int IntKind.i64 ↑n, Value.int IntKind.i64 ↑n, Value.int IntKind.i64 ↑n, Value.bool false, undef, Value.int IntKind.i64 ↑n, Value.int IntKind.i64 ↑size, Value.slice ao m0 pc, Value.slice (some { block := fb, off := fo }) mf fc, Value.int IntKind.i64 ↑n, Value.slice (some { block := vb, off := 0 }) n n, KF, Value.slice (some { block := fb, off := fo }) mf fc, Value.pointer (some { block := p, off := 0 }), Value.tuple #[Value.int IntKind.i64 ↑q7, Value.bool b7], Value.pointer (some { block := p, off := 0 }), Value.tuple #[Value.int IntKind.i64 ↑q7, Value.bool b7], Value.int IntKind.i64 ↑q7, Value.bool b7, Value.bool true, u34, u35, u36, u37, u38, xvA 0, xvA 1, xvA 2, xvA 3, xvA 4, xvA 5, Value.slice (some { block := gl, off := ol }) 1 lc, Value.int IntKind.i64 (1 : Int), Value.bool true, xvB 0, xvB 1, xvB 2, xvB 3, xvB 4, xvB 5, xvB 6, xvB 7, xvB 8, xvB 9, xvB 10, u59, u60, u61, u62, u63, undef, undef, undef, undef, undef, undef, undef, undef, undef], []⟩ ∧ (fun WB => KeepsBut (fun z => z = vb) w8 WB) WB ∧ Lst gs listed xvB WB ∧ Fd listed xvB WB 9 11 (IsRst w8.heap.size size X) ∧ Fe listed xvB WB 11 (IsPutV vb n iz size us X) ∧ Fz listed WB 11 (fun WB => Vs WB bx vb n size us (kn s) V)) (by kernel_rfl) ?_ ?_ _ _ _ _ (by kernel_rfl) (of_decide_eq_true (by kernel_rfl)) (Down.start _) ⟨fun jx => if jx = 0 then u48 else if jx = 1 then u49 else if jx = 2 then u50 else if jx = 3 then u51 else if jx = 4 then u52 else if jx = 5 then u53 else if jx = 6 then u54 else if jx = 7 then u55 else if jx = 8 then u56 else if jx = 9 then u57 else if jx = 10 then u58 else undef, rfl, KeepsBut.drew _ _, Lst.start _ _ _ _, Fd.start _ _ _ _ _ _, Fe.start _ _ _ _ _, Fz.start (V8.out.below (below0 _))⟩
          · go_light
            rintro listed ac WB ⟨xvB, rfl, hb, hG, hF9, hF11, hU11⟩ hD i hi hnl hd
            have hin : i < 12 := hi
            clear hi
            have hcase : i = 0 ∨ i = 1 ∨ i = 2 ∨ i = 3 ∨ i = 4 ∨ i = 5 ∨ i = 6 ∨ i = 7 ∨ i = 8 ∨ i = 9 ∨ i = 10 ∨ i = 11 := by omega
            rcases hcase with rfl | rfl | rfl | rfl | rfl | rfl | rfl | rfl | rfl | rfl | rfl | rfl
            · refine wpOp_step rfl (fun K' hK => ?_)
              have cb := CBX.out WB hb
              clear hd hin hD
              go_simp
              exact hK _ _ ⟨updV xvB 0 (.slice (some ⟨vb, 0, none⟩) n n), by simp [updV], hb, hG.any gk.out g0.out _ rfl, hF9.step (fun _ h => h) (by decide) (by decide) _, hF11.step (fun _ h => h) (by decide) _, hU11.step (fun h => h) (by decide)⟩
            · refine wpOp_step rfl (fun K' hK => ?_)
              clear hd hin hD
              go_simp
              exact hK _ _ ⟨updV xvB 1 (Value.slice (some { block := gl, off := ol }) 1 lc), by simp [updV], hb, hG.any gk.out g1.out _ rfl, hF9.step (fun _ h => h) (by decide) (by decide) _, hF11.step (fun _ h => h) (by decide) _, hU11.step (fun h => h) (by decide)⟩
            · refine wpOp_step rfl (fun K' hK => ?_)
              simp [Region.binds] at hd
              have e1 : xvB 1 = Value.slice (some { block := gl, off := ol }) 1 lc := hG.get g1.out (by simp [hd])
              clear hd hin hD
              go_simp
              exact hK _ _ ⟨updV xvB 2 (.pointer (some ⟨gl, ol, none⟩)), by simp [updV, e1], hb, hG.any gk.out g2.out _ rfl, hF9.step (fun _ h => h) (by decide) (by decide) _, hF11.step (fun _ h => h) (by decide) _, hU11.step (fun h => h) (by decide)⟩
            · refine wpOp_step rfl (fun K' hK => ?_)
              simp [Region.binds] at hd
              have e2 : xvB 2 = .pointer (some ⟨gl, ol, none⟩) := hG.get g2.out (by simp [hd])
              have cl := CLF.out WB hb
              clear hd hin hD
              go_simp
              exact hK _ _ ⟨updV xvB 3 (.int .i64 (iz : Int)), by simp [updV, e2], hb, hG.any gk.out g3.out _ rfl, hF9.step (fun _ h => h) (by decide) (by decide) _, hF11.step (fun _ h => h) (by decide) _, hU11.step (fun h => h) (by decide)⟩
            · refine wpOp_step rfl (fun K' hK => ?_)
              clear hd hin hD
              go_simp
              exact hK _ _ ⟨updV xvB 4 (Value.slice (some { block := fb, off := fo }) mf fc), by simp [updV], hb, hG.any gk.out g4.out _ rfl, hF9.step (fun _ h => h) (by decide) (by decide) _, hF11.step (fun _ h => h) (by decide) _, hU11.step (fun h => h) (by decide)⟩
            · refine wpOp_step rfl (fun K' hK => ?_)
              clear hd hin hD
              go_simp
              exact hK _ _ ⟨updV xvB 5 (Value.int IntKind.i64 ↑q), by simp [updV], hb, hG.any gk.out g5.out _ rfl, hF9.step (fun _ h => h) (by decide) (by decide) _, hF11.step (fun _ h => h) (by decide) _, hU11.step (fun h => h) (by decide)⟩
            · refine wpOp_step rfl (fun K' hK => ?_)
              simp [Region.binds] at hd
              have e4 : xvB 4 = Value.slice (some { block := fb, off := fo }) mf fc := hG.get g4.out (by simp [hd])
              have e5 : xvB 5 = Value.int IntKind.i64 ↑q := hG.get g5.out (by simp [hd])
              clear hd hin hD
              go_simp
              exact hK _ _ ⟨updV xvB 6 (.pointer (some ⟨fb, fo + q * 2, none⟩)), by simp [updV, e4, e5], hb, hG.any gk.out g6.out _ rfl, hF9.step (fun _ h => h) (by decide) (by decide) _, hF11.step (fun _ h => h) (by decide) _, hU11.step (fun h => h) (by decide)⟩
            · refine wpOp_step rfl (fun K' hK => ?_)
              simp [Region.binds] at hd
              have e6 : xvB 6 = .pointer (some ⟨fb, fo + q * 2, none⟩) := hG.get g6.out (by simp [hd])
              obtain ⟨cz0, cz1⟩ := CE.out WB hb
              clear hd hin hD
              go_simp
              exact hK _ _ ⟨updV xvB 7 (.agg #[e.ov, e.vv]), by simp [updV, e6], hb, hG.any gk.out g7.out _ rfl, hF9.step (fun _ h => h) (by decide) (by decide) _, hF11.step (fun _ h => h) (by decide) _, hU11.step (fun h => h) (by decide)⟩
            · refine wpOp_step rfl (fun K' hK => ?_)
              have cb := CBX.out WB hb
              clear hd hin hD
              go_simp
              exact hK _ _ ⟨updV xvB 8 (.slice (some ⟨vb, 0, none⟩) n n), by simp [updV], hb, hG.any gk.out g8.out _ rfl, hF9.step (fun _ h => h) (by decide) (by decide) _, hF11.step (fun _ h => h) (by decide) _, hU11.step (fun h => h) (by decide)⟩
            · refine wpOp_step rfl (fun K' hK => ?_)
              simp [Region.binds] at hd
              have e7 : xvB 7 = .agg #[e.ov, e.vv] := hG.get g7.out (by simp [hd])
              have e8 : xvB 8 = .slice (some ⟨vb, 0, none⟩) n n := hG.get g8.out (by simp [hd])
              have f11 : listed.getD 11 false = false := by
                cases hx : listed.getD 11 false with
                | false => rfl
                | true =>
                  have r9 : listed.getD 9 false = true := by have h := hD 11 (by decide) hx; simp [Region.binds] at h; simp [h]
                  rw [getD_false hnl] at r9; cases r9
              have f11 : listed.getD 11 false = false := by
                cases hx : listed.getD 11 false with
                | false => rfl
                | true =>
                  have r9 : listed.getD 9 false = true := by have h := hD 11 (by decide) hx; simp [Region.binds] at h; simp [h]
                  rw [getD_false hnl] at r9; cases r9
              have u11 := hU11 f11
              clear hd hin hD
              go_simp
              refine (C9.out WB u11 hb).mono ?_
              rintro e' w' ⟨v, rfl, hv, hb'⟩
              go_wp2_with fail
              exact ⟨updV xvB 9 v, by simp [updV, e7, e8], JS.out _ _ hb' hb, hG.any gk.out g9.out v trivial, Fd.new (hv), hF11.on st11.out hb' (by decide) _, hU11.step (su11.out _ _ hb') (by decide)⟩
            · refine wpOp_step rfl (fun K' hK => ?_)
              simp [Region.binds] at hd
              have e0 : xvB 0 = .slice (some ⟨vb, 0, none⟩) n n := hG.get g0.out (by simp [hd])
              have e3 : xvB 3 = .int .i64 (iz : Int) := hG.get g3.out (by simp [hd])
              clear hd hin hD
              go_simp
              exact hK _ _ ⟨updV xvB 10 (.pointer (some ⟨vb, iz, none⟩)), by simp [updV, e0, e3], hb, hG.any gk.out g10.out _ rfl, hF9.step (fun _ h => h) (by decide) (by decide) _, hF11.step (fun _ h => h) (by decide) _, hU11.step (fun h => h) (by decide)⟩
            · refine wpOp_step rfl (fun K' hK => ?_)
              simp [Region.binds] at hd
              have e10 : xvB 10 = .pointer (some ⟨vb, iz, none⟩) := hG.get g10.out (by simp [hd])
              have l9 : listed.getD 9 false = true := by simp [hd]
              have m9 := hF9.get l9 hnl
              have u11 := hU11.get hnl
              clear hd hin hD
              obtain ⟨qr, cr, e9, ho9⟩ := m9
              rw [e9] at ho9
              obtain ⟨u0, hu0, cu0⟩ := u11.at hizn
              have fz := u11.frozen iz
              go_simp
              exact hK _ _ ⟨updV xvB 11 undef, by simp [updV, e9, e10], hb.trans (KeepsBut.setCell _ _ _ _ rfl), hG.any gk.out g11.out _ trivial, Fd.off hnl, Fe.new (⟨qr, cr, store_own u11.row hizn _, (OwB.mono ho9 (Nat.zero_le _)).kept (fun k hk => heap_set_other _ _ _ _ (by obtain ⟨c1, h1⟩ := u11.kind; obtain ⟨c2, h2⟩ := owns_type' ho9 k hk; exact heap_ne h2 h1 (by decide)))⟩), Fz.off hnl⟩
          · rintro listed ac WB ⟨xvB, rfl, hb, hG, hF9, hF11, hU11⟩ hall
            have m11 : Hid ((IsPutV vb n iz size us X) (xvB 11) WB) := hF11 (hall 11 (by decide))
            have XW : Hid ((fun WB => KeepsBut (fun z => z = vb) w8 WB) WB) := hb
            clear hall hG hb gk JS g0 g1 g2 g3 g4 g5 g6 g7 g8 g9 g10 g11 hF9 st9 hF11 st11 hU11 su11
            obtain ⟨qr, cr, hrow, hX13⟩ := m11.out
            obtain ⟨wd, hwd⟩ : ∃ x, x = WB := ⟨_, rfl⟩
            subst hwd
            have V13 : Hid (Vs wd bx vb n size (us.set iz (.slice (some ⟨qr, 0, none⟩) size cr)) (kn s ++ [(iz : Int)]) (updV1 V iz X)) := V8.out.put hizn HZK.out (fun k cs t ht hk => CT.out wd k cs t XW.out ht hk) hrow hX13
            have S13 : Hid (Wt w5.heap.size wd p s) := S8.out.keptK (fun k cs t ht hk => (CT.out wd k cs t XW.out (by rcases ht with rfl | rfl <;> decide) hk).trans hk.symm) (fun k es c hk => XW.out.block k (Array.getElem?_eq_some_iff.1 hk).1 (fun e1 => heap_neM HKV.out hk e1.symm))
            have FR13 : Hid (KeepsBut (fun z => z = vb ∨ w5.heap.size ≤ z) w5 wd) := FR8.out.then2 XW.out (fun z hz => .inl (.inl hz))
            have cl13 := CLF.out wd XW.out
            have SZ13 : Hid (w5.heap.size ≤ wd.heap.size) := FR13.out.size
            have L13 : Hid (Slv (fit.map pairQ) (pairsQ fit (s.ss ++ [(q, (iz : Int))])) (updV1 V iz X)) := by
              have h2 := slv_next LL.out HE.out (show leftZ (s.ss.map Prod.snd) e.of = [(iz : Int)] from HLL2.out)
              have h3 : xorAll e.va ((knZ (s.ss.map Prod.snd) e.of).map V) = X := HXX.out
              rw [h3] at h2
              exact h2
            have hG : s.G (iz : Int) = inAll fl iz := RR.out.G iz
            have hgl := inAll_len fl (iz : Int)
            have hln := RR.out.len
            have hln' : s.ss.length + (s.FF.length + 1) ≤ 3 * fl.length := by
              have h2 : ({ s with FF := s.FF ++ [(q : Int)] } : SpS).FF.length = s.FF.length + 1 := by show (s.FF ++ [(q : Int)]).length = _; rw [List.length_append]; rfl
              have h3 : ({ s with FF := s.FF ++ [(q : Int)] } : SpS).ss = s.ss := rfl
              rw [h2, h3] at hln
              omega
            have hmf : fl.length ≤ 1000 := by rw [FLm.out, ← MF.out]; exact FLN.out
            have FND := wfound_any w5.heap.size p mf s (iz : Int) wd S13.out SZ13.out HM1.out.1 wz (fun x hx => by
              obtain ⟨l, hl⟩ : ∃ l, fl[x]? = some l := ⟨_, List.getElem?_eq_getElem (by rw [FLm.out]; exact hx)⟩
              have h2 : s.h x = ((leftZ (kn s) l).length : Int) := RR.out.h x l hl
              have h3 : (leftZ (kn s) l).length ≤ l.length := List.length_filter_le _ _
              have h4 := flat_le hl
              have h5 := FLT.out
              rw [HFL.out] at h5
              omega) (fun x hx => by rw [hG] at hx; have h2 := inAll_nat hx; rwa [FLm.out] at h2) (by rw [hG]; exact inAll_nodup fl _) (by rw [hG]; omega)
            have RF : Hid (∀ u : Value, Run fl (.bool true) { s with h := decH s.h (s.G iz), r := decR s.r (s.G iz) iz, fsv := u, FF := s.FF ++ newF s.h (s.G iz), ssv := s.ssv, ss := s.ss ++ [(q, (iz : Int))] }) := fun u => RR.out.follow (F := s.FF) (q := q) (b := (iz : Int)) (fun l hl => HND.out l (by rw [HFL.out]; exact hl)) (fun l hl x hx => (HR0.out l (by rw [HFL.out]; exact hl) x hx).1) rfl (by rw [FLm.out]; exact hqm) HHQ.out HRQ.out u s.ssv
            have CS : Hid ((s.FF ++ newF s.h (s.G iz)).length + 2 * cnt2 mf (decH s.h (s.G iz)) ≤ s.FF.length + 2 * cnt2 mf s.h) := by
              have h2 := cnt2_step fl (iz : Int) s.h
              rw [FLm.out] at h2
              unfold Hid
              rw [hG, List.length_append]
              omega
            clear m11 hrow hX13 XW hln hln' hmf hgl hG RR LL V8 S8 FR8 CBX CLF CE C9 CT HKV BW8 CE8 LF L0 HLz HLL HLL2 HZK HRQ HHQ HLM HXX
            go_upto_region 14 with fail
            go_wp2_with fail
            refine FND.mono ?_
            rintro e' w14 ⟨rfl, ⟨u14, hS14⟩, hb14, hk14⟩
            have S14 : Hid (Wt w5.heap.size w14 p { s with h := decH s.h (s.G iz), r := decR s.r (s.G iz) iz, fsv := u14, FF := s.FF ++ newF s.h (s.G iz), ssv := s.ssv, ss := s.ss ++ [(q, (iz : Int))] }) := hS14.ghost (decR s.r (s.G iz) iz) s.ssv (s.ss ++ [(q, (iz : Int))])
            have R14 : Hid (Run fl (.bool true) { s with h := decH s.h (s.G iz), r := decR s.r (s.G iz) iz, fsv := u14, FF := s.FF ++ newF s.h (s.G iz), ssv := s.ssv, ss := s.ss ++ [(q, (iz : Int))] }) := RF.out u14
            have V14 : Hid (Vs w14 bx vb n size (us.set iz (.slice (some ⟨qr, 0, none⟩) size cr)) (kn { s with h := decH s.h (s.G iz), r := decR s.r (s.G iz) iz, fsv := u14, FF := s.FF ++ newF s.h (s.G iz), ssv := s.ssv, ss := s.ss ++ [(q, (iz : Int))] }) (updV1 V iz X)) := by
              have h2 : kn { s with h := decH s.h (s.G iz), r := decR s.r (s.G iz) iz, fsv := u14, FF := s.FF ++ newF s.h (s.G iz), ssv := s.ssv, ss := s.ss ++ [(q, (iz : Int))] } = kn s ++ [(iz : Int)] := by simp [kn]
              unfold Hid
              rw [h2]
              exact V13.out.keepT hk14
            have FR14 : Hid (KeepsBut (fun z => z = vb ∨ w5.heap.size ≤ z) w5 w14) := FR13.out.then2 (KeepsBut.ofAt hb14) (fun z hz => .inl (.inr hz))
            obtain ⟨s2, hs2⟩ : ∃ x, ({ s with h := decH s.h (s.G iz), r := decR s.r (s.G iz) iz, fsv := u14, FF := s.FF ++ newF s.h (s.G iz), ssv := s.ssv, ss := s.ss ++ [(q, (iz : Int))] } : SpS) = x := ⟨_, rfl⟩
            have M14 : Hid (s2.m = mf ∧ s2.lb = lb) := by rw [← hs2]; exact HM1.out
            have L14 : Hid (Slv (fit.map pairQ) (pairsQ fit s2.ss) (updV1 V iz X)) := by rw [← hs2]; exact L13.out
            have MU14 : Hid (s2.FF.length + 2 * cnt2 mf s2.h ≤ s.FF.length + 2 * cnt2 mf s.h) := by rw [← hs2]; exact CS.out
            rw [hs2] at S14 R14 V14
            clear hs2 hS14 hb14 hk14 FND RF CS L13 V13 S13 FR13 cl13
            go_wp2_with fail
            refine (wnext_any w5.heap.size p s2 w14 fl (.bool true) S14.out R14.out).mono ?_
            rintro e9 w9 ⟨q9, b9, v9, F9, rfl, hwt, hbt, hbf, hb9, hk9⟩
            have S9 : Hid (Wt w5.heap.size w9 p { s2 with fsv := v9, FF := F9 }) := hwt
            have T9 : Hid (b9 = true → q9 < fl.length ∧ Run fl (.bool true) { s2 with fsv := v9, FF := F9 ++ [(q9 : Int)] }) := fun h => ⟨(hbt h).2, R14.out.fs v9 (F9 ++ [(q9 : Int)]) (hbt h).1⟩
            have N9 : Hid (b9 = false → Run fl (.bool true) { s2 with fsv := v9, FF := F9 } ∧ F9 = []) := fun h => ⟨R14.out.fs v9 F9 (by rw [(hbf h).1, (hbf h).2]), (hbf h).2⟩
            have V9 : Hid (Vs w9 bx vb n size (us.set iz (.slice (some ⟨qr, 0, none⟩) size cr)) (kn s2) (updV1 V iz X)) := V14.out.keepT hk9
            have FR9 : Hid (KeepsBut (fun z => z = vb ∨ w5.heap.size ≤ z) w5 w9) := FR14.out.then2 (KeepsBut.ofAt hb9) (fun z hz => .inl (.inr hz))
            have MU9 : Hid (oneT (.bool b9) + muT p lb mf w9 < oneT (.bool true) + muT p lb mf wr) := by
              have h1 := muT_eq S9.out (show (s2).m = mf from M14.out.1) (show (s2).lb = lb from M14.out.2)
              have h2 := MU14.out
              have h3 := MU0.out
              unfold Hid
              rw [h1, h3]
              cases b9 with
              | true =>
                have h4 := (hbt rfl).1
                have h5 : (s2).FF.length = F9.length + 1 := by rw [h4, List.length_append]; rfl
                show 1 + (F9.length + 2 * cnt2 mf (s2).h) < 1 + _
                omega
              | false =>
                have h4 := (hbf rfl).2
                have h5 : F9.length = 0 := by rw [h4]; rfl
                show 0 + (F9.length + 2 * cnt2 mf (s2).h) < 1 + _
                omega
            clear hwt hbt hbf hb9 hk9
            go_wp2
            go_roundw
            case rel => exact ⟨q9, b9, { s2 with fsv := v9, FF := F9 }, _, _, rfl, rfl, S9, T9, N9, M14, V9, L14, FR9⟩
            case measure => exact MU9.out
        · have hne : ((lm : Int) == 1) = false := by simp; omega
          have hh1 : s.h q ≠ 1 := by rw [HHQ.out]; omega
          have R8 : Hid (Run fl (.bool true) s) := by
            have h2 := RR.out.pass (F := s.FF) (q := q) rfl hh1 s.fsv
            exact h2
          have MU8 : Hid (s.FF.length + 2 * cnt2 mf s.h ≤ s.FF.length + 2 * cnt2 mf s.h) := Nat.le_refl _
          clear hh1 LF HHQ HLM RR HLL CE8 BW8 HOL HQE HE HLq
          go_wp2_with fail
          refine (wnext_any w5.heap.size p s w8 fl (.bool true) S8.out R8.out).mono ?_
          rintro e9 w9 ⟨q9, b9, v9, F9, rfl, hwt, hbt, hbf, hb9, hk9⟩
          have S9 : Hid (Wt w5.heap.size w9 p { s with fsv := v9, FF := F9 }) := hwt
          have T9 : Hid (b9 = true → q9 < fl.length ∧ Run fl (.bool true) { s with fsv := v9, FF := F9 ++ [(q9 : Int)] }) := fun h => ⟨(hbt h).2, R8.out.fs v9 (F9 ++ [(q9 : Int)]) (hbt h).1⟩
          have N9 : Hid (b9 = false → Run fl (.bool true) { s with fsv := v9, FF := F9 } ∧ F9 = []) := fun h => ⟨R8.out.fs v9 F9 (by rw [(hbf h).1, (hbf h).2]), (hbf h).2⟩
          have V9 : Hid (Vs w9 bx vb n size us (kn s) V) := V8.out.keepT hk9
          have FR9 : Hid (KeepsBut (fun z => z = vb ∨ w5.heap.size ≤ z) w5 w9) := FR8.out.then2 (KeepsBut.ofAt hb9) (fun z hz => .inl (.inr hz))
          have MU9 : Hid (oneT (.bool b9) + muT p lb mf w9 < oneT (.bool true) + muT p lb mf wr) := by
            have h1 := muT_eq S9.out (show (s).m = mf from HM1.out.1) (show (s).lb = lb from HM1.out.2)
            have h2 := MU8.out
            have h3 := MU0.out
            unfold Hid
            rw [h1, h3]
            cases b9 with
            | true =>
              have h4 := (hbt rfl).1
              have h5 : (s).FF.length = F9.length + 1 := by rw [h4, List.length_append]; rfl
              show 1 + (F9.length + 2 * cnt2 mf (s).h) < 1 + _
              omega
            | false =>
              have h4 := (hbf rfl).2
              have h5 : F9.length = 0 := by rw [h4]; rfl
              show 0 + (F9.length + 2 * cnt2 mf (s).h) < 1 + _
              omega
          clear hwt hbt hbf hb9 hk9
          go_wp2
          go_roundw
          case rel => exact ⟨q9, b9, { s with fsv := v9, FF := F9 }, _, _, rfl, rfl, S9, T9, N9, HM1, V9, LL, FR9⟩
          case measure => exact MU9.out
    | false =>
      obtain ⟨R, hF⟩ := HN.out rfl
      have FOUND : Hid (Found n size es (kn s) V) := ⟨s.ss, rfl, by rw [HFIT.out, HFL.out]; exact R.d, by rw [HFIT.out, HFL.out]; exact R.done hF, by rw [HFIT.out]; exact LL.out⟩
      obtain ⟨K, hK0⟩ : ∃ K, kn s = K := ⟨_, rfl⟩
      rw [hK0] at FOUND VV
      have RP : Hid (wr.heap[w.heap.size]? = some (.cells #[.slice none 0 0, .slice none 0 0, .bool false] 33 (0, 0))) := RW
      have FT1 := (FRK.out wr FR.out).1
      have BWH : Hid (Below w.heap.size w wr) := BW
      have CT : Hid (∀ (W : World) (k : Nat) (cs : Array Value) (t : TypeId), KeepsBut (fun z => z = w.heap.size) wr W → t ≠ 33 → wr.heap[k]? = some (.cells cs t (0, 0)) → W.heap[k]? = some (.cells cs t (0, 0))) := fun W k cs t hW ht hk => (hW.block k (Array.getElem?_eq_some_iff.1 hk).1 (fun e1 => heap_ne hk RP.out ht e1)).trans hk
      have BWW : Hid (∀ W, KeepsBut (fun z => z = w.heap.size) wr W → Below w.heap.size w W) := fun W hW => BWH.out.trans (hW.below BWH.out.size (fun k hk => by omega))
      have VW : Hid (∀ W, KeepsBut (fun z => z = w.heap.size) wr W → Vs W bx vb n size us K V) := fun W hW => VV.out.keptK fun k cs t ht hk => CT.out W k cs t hW (by rcases ht with rfl | rfl | rfl <;> decide) hk
      have QWW : Hid (∀ W, KeepsBut (fun z => z = w.heap.size) wr W → Qs W (.slice fa mf fc) fit ∧ W.cell? ⟨kb, 0, none⟩ = some KF) := fun W hW => by
        obtain ⟨h1, h2⟩ := QFP.out W (fun k cs t ht ht2 hk => CT.out W k cs t hW ht2 (FT1 k cs t ht hk)) (BWW.out W hW)
        exact ⟨h1, by simp [World.cell?, h2]⟩
      have CBX : Hid (∀ W, KeepsBut (fun z => z = w.heap.size) wr W → W.cell? ⟨bx, 0, none⟩ = some (.slice (some ⟨vb, 0, none⟩) n n)) := fun W hW => by
        have h1 := (VW.out W hW).box
        simp [World.cell?, h1]
      have CW : Hid (∀ W, KeepsBut (fun z => z = w.heap.size) wr W → Calls Try.prog 35 #[.int .i64 (n : Int), KF] W fun e' w' => ∃ v, e' = .returned v ∧ IsLz w.heap.size (kRise K n) v w' ∧ Below W.heap.size W w') := fun W hW => by
        rw [← HKF.out]
        refine (which_any bx vb n size us K V W (VW.out W hW) (by omega)).mono ?_
        rintro e' w' ⟨a, m, c, rfl, ho, hb⟩
        exact ⟨_, rfl, ⟨a, m, c, rfl, ho.mono (BWW.out W hW).size⟩, hb⟩
      have CC : Hid (∀ W, KeepsBut (fun z => z = w.heap.size) wr W → Calls Try.prog 36 #[.slice fa mf fc, .func (.func 33) #[] #[.pointer (some ⟨kb, 0, none⟩), .pointer (some ⟨bx, 0, none⟩)]] W fun e' w' => ∃ v, e' = .returned v ∧ IsSome (∃ e ∈ fit, FailP n K V e) v w' ∧ Below W.heap.size W w') := fun W hW => by
        obtain ⟨h1, h2⟩ := QWW.out W hW
        refine (containsfn_any (FailP n K V) kb bx (.slice fa mf fc) fit W h1 (by have := FLN.out; omega) (fun W2 hW2 e he => bfails_any e kb bx vb n size us K V W2 (h1.below hW2 |>.2 e he) ((hW2.cell (cell_block_lt h2)).trans (by rw [h2, ← HKF.out])) ((VW.out W hW).below hW2) (HFT.out e he).2.1.2 (by omega) (by rw [(HFT.out e he).2.2]; omega) (by
          obtain ⟨j, hj⟩ := List.getElem?_of_mem he
          have h3 : fl[j]? = some e.of := by rw [← HFL.out, List.getElem?_map, hj]; rfl
          have h4 := flat_le h3
          have h5 := FLT.out
          rw [HFL.out] at h5
          omega))).mono ?_
        rintro e' w' ⟨⟨b, rfl, hb1⟩, hb⟩
        exact ⟨_, rfl, ⟨b, rfl, hb1⟩, hb⟩
      clear R hF QW RW KW BW HT HN HM1 LL FT1 SS hK0
      go_upto_region 16 with fail
      refine wp_region_any (by kernel_rfl) ?_
      obtain ⟨gs, hgs⟩ : ∃ gs : List (Value → World → Prop), gs = [IsV (Value.int IntKind.i64 ↑n), IsV (KF), IsAnyV, IsV (.slice (some ⟨vb, 0, none⟩) n n), IsV (Value.slice fa mf fc), IsV (Value.func (Fn.func 33) #[] #[Value.pointer (some { block := kb, off := 0 }), Value.pointer (some { block := bx, off := 0 })]), IsAnyV, IsAnyV, IsAnyV] := ⟨_, rfl⟩
      have g0 : Hid (gs[0]? = some (IsV (Value.int IntKind.i64 ↑n))) := by unfold Hid; rw [hgs]; rfl
      have g1 : Hid (gs[1]? = some (IsV (KF))) := by unfold Hid; rw [hgs]; rfl
      have g2 : Hid (gs[2]? = some (IsAnyV)) := by unfold Hid; rw [hgs]; rfl
      have g3 : Hid (gs[3]? = some (IsV (.slice (some ⟨vb, 0, none⟩) n n))) := by unfold Hid; rw [hgs]; rfl
      have g4 : Hid (gs[4]? = some (IsV (Value.slice fa mf fc))) := by unfold Hid; rw [hgs]; rfl
      have g5 : Hid (gs[5]? = some (IsV (Value.func (Fn.func 33) #[] #[Value.pointer (some { block := kb, off := 0 }), Value.pointer (some { block := bx, off := 0 })]))) := by unfold Hid; rw [hgs]; rfl
      have g6 : Hid (gs[6]? = some (IsAnyV)) := by unfold Hid; rw [hgs]; rfl
      have g7 : Hid (gs[7]? = some (IsAnyV)) := by unfold Hid; rw [hgs]; rfl
      have g8 : Hid (gs[8]? = some (IsAnyV)) := by unfold Hid; rw [hgs]; rfl
      have gk : Hid (∀ p ∈ gs, ∀ v (U U' : World), p v U → p v U') := by
        unfold Hid
        rw [hgs]
        simp only [List.forall_mem_cons]
        exact ⟨(fun _ _ _ h => h), (fun _ _ _ h => h), (fun _ _ _ h => h), (fun _ _ _ h => h), (fun _ _ _ h => h), (fun _ _ _ h => h), (fun _ _ _ h => h), (fun _ _ _ h => h), (fun _ _ _ h => h), by simp⟩
      clear hgs
      have JS : Hid (∀ WC WC', Below WC.heap.size WC WC' → (fun WC => KeepsBut (fun z => z = w.heap.size) wr WC) WC → (fun WC => KeepsBut (fun z => z = w.heap.size) wr WC) WC') := fun WC WC' hb h => h.trans (KeepsBut.ofBelow hb)
      have st2 : Hid (Stays (IsLz w.heap.size (kRise K n))) := stays_lz _ _
      have st6 : Hid (Stays (IsSome (∃ e ∈ fit, FailP n K V e))) := stays_some _
      have st7 : Hid (Stays (IsRes0 w.heap.size vb n (kRise K n) (∃ e ∈ fit, FailP n K V e))) := stays_res0 _ _ _ _ _
      have st8 : Hid (Stays (IsResB w.heap.size w.heap.size vb n (kRise K n) (∃ e ∈ fit, FailP n K V e))) := stays_resB _ _ _ _ _ _
      have su8 : Hid (∀ WC WC', Below WC.heap.size WC WC' → (fun WC => WC.heap[w.heap.size]? = some (.cells #[.slice none 0 0, .slice none 0 0, .bool false] 33 (0, 0))) WC → (fun WC => WC.heap[w.heap.size]? = some (.cells #[.slice none 0 0, .slice none 0 0, .bool false] 33 (0, 0))) WC') := fun WC WC' hb h => (hb.block _ (Array.getElem?_eq_some_iff.1 h).1).trans h
      refine wpAny_inv4 (fun listed ac WC => ∃ xvC : Nat → Value, ac = ⟨#[Value.int IntKind.i64 ↑n, Value.int IntKind.i64 ↑size, Value.slice fa mf fc, undef, undef, undef, Value.pointer (some { block := w.heap.size, off := 0 }), Value.pointer (some { block := bx, off := 0 }), Value.pointer (some { block := kb, off := 0 }), Value.pointer (some { block := p, off := 0 }), Value.int IntKind.i64 ↑q, Value.bool false, u12, Value.func (Fn.func 33) #[] #[Value.pointer (some { block := kb, off := 0 }), Value.pointer (some { block := bx, off := 0 })], Value.int IntKind.i64 ↑n, Value.int IntKind.i64 ↑n, Value.int IntKind.i64 ↑n, Value.bool false, undef, Value.int IntKind.i64 ↑n, Value.int IntKind.i64 ↑size, Value.slice ao m0 pc, Value.slice fa mf fc, Value.int IntKind.i64 ↑n, Value.slice (some { block := vb, off := 0 }) n n, KF, Value.slice fa mf fc, Value.pointer (some { block := p, off := 0 }), Value.tuple #[Value.int IntKind.i64 ↑q7, Value.bool b7], Value.pointer (some { block := p, off := 0 }), Value.tuple #[Value.int IntKind.i64 ↑q7, Value.bool b7], Value.int IntKind.i64 ↑q7, Value.bool b7, Value.bool false, u34, u35, u36, u37, u38, u39, u40, u41, u42, u43, u44, u45, u46, u47, u48, u49, u50, u51, u52, u53, u54, u55, u56, u57, u58, u59, u60, u61, u62, u63, Value.func (Fn.func 33) #[] #[Value.pointer (some { block := kb, off := 0 }), Value.pointer (some { block := bx, off := 0 })], xvC 0, xvC 1, xvC 2, xvC 3, xvC 4, xvC 5, xvC 6, xvC 7], []⟩ ∧ (fun WC => KeepsBut (fun z => z = w.heap.size) wr WC) WC ∧ Lst gs listed xvC WC ∧ Fd listed xvC WC 2 7 (IsLz w.heap.size (kRise K n)) ∧ Fe listed xvC WC 6 (IsSome (∃ e ∈ fit, FailP n K V e)) ∧ Fd listed xvC WC 7 8 (IsRes0 w.heap.size vb n (kRise K n) (∃ e ∈ fit, FailP n K V e)) ∧ Fe listed xvC WC 8 (IsResB w.heap.size w.heap.size vb n (kRise K n) (∃ e ∈ fit, FailP n K V e)) ∧ Fz listed WC 8 (fun WC => WC.heap[w.heap.size]? = some (.cells #[.slice none 0 0, .slice none 0 0, .bool false] 33 (0, 0)))) (by kernel_rfl) ?_ ?_ _ _ _ _ (by kernel_rfl) (of_decide_eq_true (by kernel_rfl)) (Down.start _) ⟨fun jx => undef, rfl, KeepsBut.drew _ _, Lst.start _ _ _ _, Fd.start _ _ _ _ _ _, Fe.start _ _ _ _ _, Fd.start _ _ _ _ _ _, Fe.start _ _ _ _ _, Fz.start (RP.out)⟩
      · go_light
        rintro listed ac WC ⟨xvC, rfl, hb, hG, hF2, hF6, hF7, hF8, hU8⟩ hD i hi hnl hd
        have hin : i < 9 := hi
        clear hi
        have hcase : i = 0 ∨ i = 1 ∨ i = 2 ∨ i = 3 ∨ i = 4 ∨ i = 5 ∨ i = 6 ∨ i = 7 ∨ i = 8 := by omega
        rcases hcase with rfl | rfl | rfl | rfl | rfl | rfl | rfl | rfl | rfl
        · refine wpOp_step rfl (fun K' hK => ?_)
          clear hd hin hD
          go_simp
          exact hK _ _ ⟨updV xvC 0 (Value.int IntKind.i64 ↑n), by simp [updV], hb, hG.any gk.out g0.out _ rfl, hF2.step (fun _ h => h) (by decide) (by decide) _, hF6.step (fun _ h => h) (by decide) _, hF7.step (fun _ h => h) (by decide) (by decide) _, hF8.step (fun _ h => h) (by decide) _, hU8.step (fun h => h) (by decide)⟩
        · refine wpOp_step rfl (fun K' hK => ?_)
          obtain ⟨-, ck⟩ := QWW.out WC hb
          clear hd hin hD
          go_simp
          exact hK _ _ ⟨updV xvC 1 (KF), by simp [updV], hb, hG.any gk.out g1.out _ rfl, hF2.step (fun _ h => h) (by decide) (by decide) _, hF6.step (fun _ h => h) (by decide) _, hF7.step (fun _ h => h) (by decide) (by decide) _, hF8.step (fun _ h => h) (by decide) _, hU8.step (fun h => h) (by decide)⟩
        · refine wpOp_step rfl (fun K' hK => ?_)
          simp [Region.binds] at hd
          have e0 : xvC 0 = Value.int IntKind.i64 ↑n := hG.get g0.out (by simp [hd])
          have e1 : xvC 1 = KF := hG.get g1.out (by simp [hd])
          clear hd hin hD
          go_simp
          refine (CW.out WC hb).mono ?_
          rintro e w' ⟨v, rfl, hv, hb'⟩
          go_wp2_with fail
          exact ⟨updV xvC 2 v, by simp [updV, e0, e1], JS.out _ _ hb' hb, hG.any gk.out g2.out v trivial, Fd.new (hv), hF6.on st6.out hb' (by decide) _, hF7.on st7.out hb' (by decide) (by decide) _, hF8.on st8.out hb' (by decide) _, hU8.step (su8.out _ _ hb') (by decide)⟩
        · refine wpOp_step rfl (fun K' hK => ?_)
          have cb := CBX.out WC hb
          clear hd hin hD
          go_simp
          exact hK _ _ ⟨updV xvC 3 (.slice (some ⟨vb, 0, none⟩) n n), by simp [updV], hb, hG.any gk.out g3.out _ rfl, hF2.step (fun _ h => h) (by decide) (by decide) _, hF6.step (fun _ h => h) (by decide) _, hF7.step (fun _ h => h) (by decide) (by decide) _, hF8.step (fun _ h => h) (by decide) _, hU8.step (fun h => h) (by decide)⟩
        · refine wpOp_step rfl (fun K' hK => ?_)
          clear hd hin hD
          go_simp
          exact hK _ _ ⟨updV xvC 4 (Value.slice fa mf fc), by simp [updV], hb, hG.any gk.out g4.out _ rfl, hF2.step (fun _ h => h) (by decide) (by decide) _, hF6.step (fun _ h => h) (by decide) _, hF7.step (fun _ h => h) (by decide) (by decide) _, hF8.step (fun _ h => h) (by decide) _, hU8.step (fun h => h) (by decide)⟩
        · refine wpOp_step rfl (fun K' hK => ?_)
          clear hd hin hD
          go_simp
          exact hK _ _ ⟨updV xvC 5 (Value.func (Fn.func 33) #[] #[Value.pointer (some { block := kb, off := 0 }), Value.pointer (some { block := bx, off := 0 })]), by simp [updV], hb, hG.any gk.out g5.out _ rfl, hF2.step (fun _ h => h) (by decide) (by decide) _, hF6.step (fun _ h => h) (by decide) _, hF7.step (fun _ h => h) (by decide) (by decide) _, hF8.step (fun _ h => h) (by decide) _, hU8.step (fun h => h) (by decide)⟩
        · refine wpOp_step rfl (fun K' hK => ?_)
          simp [Region.binds] at hd
          have e4 : xvC 4 = Value.slice fa mf fc := hG.get g4.out (by simp [hd])
          have e5 : xvC 5 = Value.func (Fn.func 33) #[] #[Value.pointer (some { block := kb, off := 0 }), Value.pointer (some { block := bx, off := 0 })] := hG.get g5.out (by simp [hd])
          clear hd hin hD
          go_simp
          refine (CC.out WC hb).mono ?_
          rintro e w' ⟨v, rfl, hv, hb'⟩
          go_wp2_with fail
          exact ⟨updV xvC 6 v, by simp [updV, e4, e5], JS.out _ _ hb' hb, hG.any gk.out g6.out v trivial, hF2.on st2.out hb' (by decide) (by decide) _, Fe.new (hv), hF7.on st7.out hb' (by decide) (by decide) _, hF8.on st8.out hb' (by decide) _, hU8.step (su8.out _ _ hb') (by decide)⟩
        · refine wpOp_step rfl (fun K' hK => ?_)
          simp [Region.binds] at hd
          have l2 : listed.getD 2 false = true := by simp [hd]
          have m2 := hF2.get l2 hnl
          have e3 : xvC 3 = .slice (some ⟨vb, 0, none⟩) n n := hG.get g3.out (by simp [hd])
          have l6 : listed.getD 6 false = true := by simp [hd]
          have m6 := hF6 l6
          clear hd hin hD
          obtain ⟨a2, m2x, c2, e2, ho2⟩ := m2
          obtain ⟨b6, e6, hb6⟩ := m6
          go_simp
          exact hK _ _ ⟨updV xvC 7 (.agg #[.slice a2 m2x c2, .slice (some ⟨vb, 0, none⟩) n n, .bool b6]), by simp [updV, e2, e3, e6], hb, hG.any gk.out g7.out _ trivial, Fd.off hnl, hF6.step (fun _ h => h) (by decide) _, Fd.new (⟨a2, m2x, c2, b6, rfl, ho2, hb6⟩), hF8.step (fun _ h => h) (by decide) _, hU8.step (fun h => h) (by decide)⟩
        · refine wpOp_step rfl (fun K' hK => ?_)
          simp [Region.binds] at hd
          have l7 : listed.getD 7 false = true := by simp [hd]
          have m7 := hF7.get l7 hnl
          have q7 : listed.getD 7 false = true := by simp [hd]
          have u8 := hU8.get hnl
          clear hd hin hD
          obtain ⟨a7, m7x, c7, b7, e7, ho7, hb7⟩ := m7
          have cr0 : WC.cell? ⟨w.heap.size, 0, none⟩ = some (.slice none 0 0) := by simp [World.cell?, u8]
          have cr1 : WC.cell? ⟨w.heap.size, 1, none⟩ = some (.slice none 0 0) := by simp [World.cell?, u8]
          have cr2 : WC.cell? ⟨w.heap.size, 2, none⟩ = some (.bool false) := by simp [World.cell?, u8]
          have fr0 : WC.frozen? ⟨w.heap.size, 0, none⟩ = false := by simp [World.frozen?, u8]
          have fr1 : WC.frozen? ⟨w.heap.size, 1, none⟩ = false := by simp [World.frozen?, u8]
          have fr2 : WC.frozen? ⟨w.heap.size, 2, none⟩ = false := by simp [World.frozen?, u8]
          go_simp
          exact hK _ _ ⟨updV xvC 8 undef, by simp [updV, e7], ((hb.trans (KeepsBut.setCell _ _ _ _ rfl)).trans (KeepsBut.setCell _ _ _ _ rfl)).trans (KeepsBut.setCell _ _ _ _ rfl), hG.any gk.out g8.out _ trivial, Fd.gone q7 (by decide), hF6.step (fun _ h => h) (by decide) _, Fd.off hnl, Fe.new (⟨a7, m7x, c7, b7, set3r u8 _ _ _, ho7.kept (fun k hk => set3_other _ _ _ _ _ (by obtain ⟨c2, h2⟩ := ho7.kind hk; exact heap_ne h2 u8 (by decide))), hb7⟩), Fz.off hnl⟩
      · rintro listed ac WC ⟨xvC, rfl, hb, hG, hF2, hF6, hF7, hF8, hU8⟩ hall
        have m8 : Hid ((IsResB w.heap.size w.heap.size vb n (kRise K n) (∃ e ∈ fit, FailP n K V e)) (xvC 8) WC) := hF8 (hall 8 (by decide))
        have XW : Hid ((fun WC => KeepsBut (fun z => z = w.heap.size) wr WC) WC) := hb
        clear hall hG hb gk JS g0 g1 g2 g3 g4 g5 g6 g7 g8 hF2 st2 hF6 st6 hF7 st7 hF8 st8 hU8 su8
        obtain ⟨ar, mr, cr, br, hbox, hor, hbr⟩ := m8.out
        obtain ⟨we, hwe⟩ : ∃ x, x = WC := ⟨_, rfl⟩
        subst hwe
        have HB2 : Hid (we.heap[w.heap.size]? = some (.cells #[.slice ar mr cr, .slice (some ⟨vb, 0, none⟩) n n, .bool br] 33 (0, 0))) := hbox
        have HO2 : Hid (OwnZ w.heap.size we (.slice ar mr cr) mr (kRise K n)) := hor
        have HR2 : Hid (br = true ↔ ∃ e ∈ fit, FailP n K V e) := hbr
        have HV2 := VW.out we XW.out
        have HW2 := BWW.out we XW.out
        clear m8 hbox hor hbr CT BWW VW QWW CBX CW CC
        go_wp2
        refine bodyPost_ret (ret_cell1 rfl rfl (load3r HB2.out)) rfl ?_
        unfold SolveR
        exact ⟨ar, mr, cr, bx, vb, us, K, V, br, rfl, HO2.out, HV2, FOUND.out, by rw [HFIT.out]; exact HR2.out, HW2⟩

end Go.Proofs.Ytkckbeekehecnaa
