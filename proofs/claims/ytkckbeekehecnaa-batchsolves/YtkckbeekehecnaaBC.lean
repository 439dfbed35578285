/-
  batch: found, waitingOf.
-/
import Derived.Test.YtkckbeekehecnaaBB
import Derived.RegionTactic
import Derived.Deep.Light
namespace Go.Proofs.Ytkckbeekehecnaa
open Go.RowKit
set_option linter.unusedVariables false
set_option maxRecDepth 100000

/-- What is told of it, but isn't in memory. -/
theorem Wt.ghost {B : Nat} {W : World} {p : Nat} {s : SpS} (h : Wt B W p s) (r : Nat → Int) (u : Value) (ss : List (Nat × Int)) : Wt B W p { s with r := r, ssv := u, ss := ss } :=
  ⟨h.box, h.map, h.rows, h.out, h.left, h.first, h.bp, h.bm, h.dfl, h.drow, h.dtwo⟩

set_option maxHeartbeats 2000000 in
/-- FOUND. -/
theorem wfound_any (B p m : Nat) (s : SpS) (b : Int) (w : World) (hs : Wt B w p s) (hB : B ≤ w.heap.size) (hm : s.m = m) (wb : (Lit.int .i64 b).wf = true)
    (hh : ∀ e, e < m → 0 ≤ s.h e ∧ s.h e ≤ 1000000) (hL : ∀ x ∈ s.G b, ∃ e : Nat, x = e ∧ e < m) (hN : (s.G b).Nodup) (hlen : s.FF.length + (s.G b).length ≤ 1000000) :
    Calls Try.prog 32 #[.pointer (some ⟨p, 0, none⟩), .int .i64 b] w fun e' w' => e' = .returned (.tuple #[]) ∧ (∃ u, Wt B w' p { s with h := decH s.h (s.G b), fsv := u, FF := s.FF ++ newF s.h (s.G b) }) ∧ Below B w w' ∧ KeepT w w' := by
  have HS : Hid (Wt B w p s) := hs
  have HB0 : Hid (B ≤ w.heap.size) := hB
  have HH : Hid (∀ e, e < m → 0 ≤ s.h e ∧ s.h e ≤ 1000000) := hh
  have HLL : Hid (∀ x ∈ s.G b, ∃ e : Nat, x = e ∧ e < m) := hL
  have HN : Hid ((s.G b).Nodup) := hN
  have HM : Hid (s.m = m) := hm
  have HLE : Hid (s.FF.length + (s.G b).length ≤ 1000000) := hlen
  obtain ⟨L, hLg⟩ : ∃ L, s.G b = L := ⟨_, rfl⟩
  rw [hLg] at HLL HN HLE ⊢
  have HG : Hid (s.G b = L) := hLg
  obtain ⟨v0, hv0⟩ : ∃ v0, (s.f b).getD (.slice none 0 0) = v0 := ⟨_, rfl⟩
  have LK : (Instr.lookup 83 (.map (some s.mb)) (.int .i64 b) false).run Try.prog w = .ok v0 w := by rw [← hv0]; exact hs.map.look Try.underlying83 (Try.zeroZs w) wb
  have RW : Hid (∀ W s', Wt B W p s' → s'.f = s.f → s'.G = s.G → Zs W v0 L) := by
    intro W s' h' hf hg
    rw [← hv0, ← HG.out]
    cases hfb : s.f b with
    | none =>
      have h1 := h'.out b (by rw [hf]; exact hfb)
      rw [hg] at h1
      rw [h1]
      exact (OwnZ.nil 0 W).zs
    | some v =>
      have h1 := h'.rows b v (by rw [hf]; exact hfb)
      rw [hg] at h1
      exact h1.zs
  have Z5 := RW.out w s hs rfl rfl
  obtain ⟨la, lc, rfl, hl2, hl3⟩ := zs_shape Z5
  obtain ⟨n, hn⟩ : ∃ n, L.length = n := ⟨_, rfl⟩
  have Hn : Hid (L.length = n) := hn
  rw [hn] at LK RW hl2
  obtain ⟨c0, -, -⟩ := hs.cells
  clear Z5 hv0 hn wb hs hB hm hh hL hN hlen hLg
  go_enter Try.func32, Try.ntmps32
  go_wp2
  clear LK c0
  go_loopw [13] (fun iv wr => ∃ (j : Nat) (u : Value), j ≤ n ∧ iv = .int .i64 j ∧ Hid (Wt B wr p { s with h := decH s.h (L.take j), fsv := u, FF := s.FF ++ newF s.h (L.take j) }) ∧ Hid (Below B w wr) ∧ Hid (KeepT w wr)) (fun iv _ => n - (intOf iv).toNat)
  case atStart =>
    refine ⟨0, s.fsv, by omega, rfl, ?_, Below.refl _ _, KeepT.refl _⟩
    have e1 : decH s.h (L.take 0) = s.h := by funext x; simp [decH]
    have e3 : newF s.h (L.take 0) = [] := by simp [newF]
    unfold Hid
    rw [e1, e3, List.append_nil]
    exact HS.out
  case round =>
    obtain ⟨j, u, hj, rfl, SS, XX, TT⟩ := hrel
    by_cases hlt : j < n
    · obtain ⟨x0, hx0⟩ : ∃ x, L[j]? = some x := ⟨_, List.getElem?_eq_getElem (by rw [Hn.out]; exact hlt)⟩
      obtain ⟨e, rfl, he⟩ := HLL.out x0 (List.mem_of_getElem? hx0)
      have HX : Hid (L[j]? = some (e : Int)) := hx0
      have hne := not_taken HN.out hx0
      have Z0 := RW.out wr _ SS.out rfl rfl
      obtain ⟨bl, off, rfl, ci⟩ := zs_at Z0 (Below.refl _ _) hx0
      obtain ⟨z, hz⟩ : ∃ z, s.h e = z := ⟨_, rfl⟩
      obtain ⟨hz0, hz1⟩ := HH.out e he
      rw [hz] at hz0 hz1
      obtain ⟨-, c1, -⟩ := SS.out.cells
      have c1' : wr.cell? ⟨p, 1, none⟩ = some (.slice (some ⟨s.lb, 0, none⟩) m m) := by rw [c1]; show some (Value.slice (some ⟨s.lb, 0, none⟩) s.m s.m) = _; rw [HM.out]
      have ol : OwnZ B wr (.slice (some ⟨s.lb, 0, none⟩) m m) m (tabZ m (decH s.h (L.take j))) := by
        have h1 := SS.out.left
        have h2 : ({ s with h := decH s.h (L.take j), fsv := u, FF := s.FF ++ newF s.h (L.take j) } : SpS).lv = .slice (some ⟨s.lb, 0, none⟩) s.m s.m := rfl
        rw [h2] at h1
        have h3 := HM.out
        simp only [] at h1
        rw [h3] at h1
        exact h1
      have cl := ol.cell (tab_get (decH s.h (L.take j)) he)
      have e2 : decH s.h (L.take j) e = z := by unfold decH; rw [if_neg hne, hz]
      rw [e2] at cl
      have FL : Hid ((s.FF ++ newF s.h (L.take j)).length ≤ 1000000) := by
        have h1 := newF_le s.h L j
        have h2 := HLE.out
        have h3 := Hn.out
        unfold Hid
        rw [List.length_append]
        omega
      have SZ : Hid (B ≤ wr.heap.size) := Nat.le_trans HB0.out XX.out.size
      clear c1 ol hx0
      go_wp2_with fail
      refine (wleave_any B p m _ e (z - 1) wr SS.out SZ.out HM.out he FL.out).mono ?_
      rintro e' w7 ⟨rfl, ⟨u2, S7⟩, X7, T7⟩
      have S8 : Hid (Wt B w7 p { s with h := decH s.h (L.take (j + 1)), fsv := u2, FF := s.FF ++ newF s.h (L.take (j + 1)) }) := by
        have h1 := decH_next (h := s.h) HN.out HX.out
        have h3 := newF_next (h := s.h) HX.out
        rw [hz] at h1 h3
        unfold Hid
        rw [← h1, h3]
        by_cases hz2 : z - 1 = 1
        · rw [if_pos hz2] at S7 ⊢
          rw [← List.append_assoc]
          exact S7
        · rw [if_neg hz2] at S7 ⊢
          rw [List.append_nil]
          exact S7
      have X8 : Hid (Below B w w7) := XX.out.trans X7
      have T8 : Hid (KeepT w w7) := TT.out.trans T7
      clear T7 TT S7 X7 SS XX c1' cl FL ci
      go_wp2
      go_roundw
      case rel => exact ⟨j + 1, u2, by omega, by go_num, S8, X8, T8⟩
      case measure => simp [intOf]; omega
    · obtain rfl : n = j := by omega
      have eL : L.take n = L := List.take_of_length_le (by rw [Hn.out]; exact Nat.le_refl _)
      have R : Hid (Wt B wr p { s with h := decH s.h L, fsv := u, FF := s.FF ++ newF s.h L }) := by
        have h1 := SS.out
        rw [eL] at h1
        exact h1
      clear SS eL
      go_wp2
      first | go_ret | go_end0
      exact ⟨rfl, ⟨u, R.out⟩, XX.out, TT.out⟩

/-- Nothing waits as yet. -/
def wtZero (mb lb m : Nat) : SpS := ⟨mb, 0, fun _ => none, fun _ => [], lb, 0, m, fun _ => 0, fun _ => 0, .slice none 0 0, [], .slice none 0 0, [], .bool true⟩
theorem Wt.new {B : Nat} {W : World} {mb lb m : Nat} (hB : B ≤ W.heap.size) (h2 : B ≤ mb) (h3 : MpO W mb 0 (fun _ => none)) (h4 : OwnZ B W (.slice (some ⟨lb, 0, none⟩) m m) m (tabZ m (fun _ => 0))) :
    Wt B (W.alloc (.cells #[.map (some mb), .slice (some ⟨lb, 0, none⟩) m m, .slice none 0 0] 85)) W.heap.size (wtZero mb lb m) where
  box := heap_alloc_new W _
  map := h3.below (below_alloc _ _)
  rows b v hv := by cases hv
  out b _ := rfl
  left := h4.below (below_alloc _ _)
  first := OwnZ.nil _ _
  bp := hB
  bm := h2
  dfl := fun h => by cases h
  drow b v hv := by cases hv
  dtwo b v b' v' hv := by cases hv
def IsRwW (B p : Nat) (s : SpS) (b x : Int) : Value → World → Prop := fun v W => WtC B W p (rowS s b x v) ∧ MpO W s.mb s.k s.f
theorem stays_rwW (B p : Nat) (s : SpS) (b x : Int) : Stays (IsRwW B p s b x) := fun _ _ _ hb h => ⟨h.1.below hb, h.2.below hb⟩
def IsRfW (B p : Nat) (s : SpS) (b x : Int) : Value → World → Prop := fun _ W => ∃ v, Wt B W p (rowS s b x v)
theorem stays_rfW (B p : Nat) (s : SpS) (b x : Int) : Stays (IsRfW B p s b x) := fun _ _ _ hb ⟨v, h⟩ => ⟨v, h.below hb⟩

set_option maxHeartbeats 4000000 in
/-- WAITINGOF: all equations wait for all of their blocks. -/
theorem waitingOf_any (pv : Value) (es : List Qe) (w : World) (hp : Qs w pv es) (hm0 : es.length ≤ 100000) (hT : (es.map Qe.of).flatten.length ≤ 1000000)
    (hfl : ∀ l ∈ es.map Qe.of, l.Nodup ∧ ∀ x ∈ l, 0 ≤ x ∧ x < 9223372036854775808) :
    Calls Try.prog 28 #[pv] w fun e w' => ∃ (p : Nat) (s : SpS), e = .returned (.pointer (some ⟨p, 0, none⟩)) ∧ Wt w.heap.size w' p s ∧ Run (es.map Qe.of) (.bool true) s ∧ s.ss = [] ∧ Below w.heap.size w w' := by
  obtain ⟨i0, hi0, hz0, hz1, hz2⟩ := infoZ_parts
  obtain ⟨fl, hfl0⟩ : ∃ fl, es.map Qe.of = fl := ⟨_, rfl⟩
  rw [hfl0] at hT hfl ⊢
  have HFE : Hid (es.map Qe.of = fl) := hfl0
  have HP : Hid (Qs w pv es) := hp
  have HFL : Hid (∀ l ∈ fl, l.Nodup ∧ ∀ x ∈ l, 0 ≤ x ∧ x < 9223372036854775808) := hfl
  have HT : Hid (fl.flatten.length ≤ 1000000) := hT
  obtain ⟨ao, pc, rfl, hp2, hp3⟩ := hp.shape
  obtain ⟨m, hm⟩ : ∃ m, es.length = m := ⟨_, rfl⟩
  have HM : Hid (es.length = m) := hm
  have HF : Hid (fl.length = m) := by unfold Hid; rw [← hfl0, List.length_map, hm]
  rw [hm] at hp2 hm0 HP ⊢
  have hmm := @run_makeMap Try.prog
  have M0 : Hid (MpO (w.alloc (.map #[] 0)) w.heap.size 0 (fun _ => none)) := MpO.start w
  have Y0 : Hid (Below w.heap.size w (w.alloc (.map #[] 0))) := below_alloc _ _
  clear hm hfl hT hfl0 hp
  go_enter Try.func28, Try.ntmps28
  go_wp2_with (at_make; refine wpList_make_full _ rfl _ _ 31 rfl w.heap.size 3 i0 (.int .i64 0) 1 Try.underlying31 hi0 hz0 hz1 _ _ _ _ m rfl rfl rfl rfl (by rw [hz2]; omega) (by unfold maxLen; omega) Y0.out.size ?_; intro w1 ho1 hg1)
  obtain ⟨lb, hlb⟩ : ∃ x, (w.alloc (.map #[] 0)).heap.size = x := ⟨_, rfl⟩
  have X1 : Hid (Below w.heap.size w w1) := Y0.out.grown hg1 Y0.out.size (fun k hk => by cases hk)
  have M1 : Hid (MpO w1 w.heap.size 0 (fun _ => none)) := M0.out.kept (hg1.block _ M0.out.lt (fun h => by cases h))
  rw [hlb] at ho1
  have S0 : Hid (Wt w.heap.size (w1.alloc (.cells #[.map (some w.heap.size), .slice (some ⟨lb, 0, none⟩) m m, .slice none 0 0] 85)) w1.heap.size (wtZero w.heap.size lb m)) := Wt.new X1.out.size (Nat.le_refl _) M1.out (made_tab ho1)
  have X2 : Hid (Below w.heap.size w (w1.alloc (.cells #[.map (some w.heap.size), .slice (some ⟨lb, 0, none⟩) m m, .slice none 0 0] 85))) := X1.out.alloc X1.out.size _
  have elb : w.heap.size + 1 = lb := by rw [← hlb]; simp
  rw [elb]
  obtain ⟨w2, hw2⟩ : ∃ x, w1.alloc (.cells #[.map (some w.heap.size), .slice (some ⟨lb, 0, none⟩) m m, .slice none 0 0] 85) = x := ⟨_, rfl⟩
  rw [hw2] at S0 X2 ⊢
  obtain ⟨p, hp⟩ : ∃ x, w1.heap.size = x := ⟨_, rfl⟩
  rw [hp] at S0 ⊢
  clear hw2 ho1 hg1 hlb hp M0 M1 Y0 X1 hmm elb
  go_loopw [16] (fun iv wr => ∃ (i : Nat) (s : SpS), i ≤ m ∧ iv = .int .i64 i ∧ Hid (Wt w.heap.size wr p s) ∧ Hid (Bld fl (.bool true) i [] s) ∧ Hid (Below w.heap.size w wr)) (fun iv _ => m - (intOf iv).toNat)
  case atStart =>
    refine ⟨0, wtZero w.heap.size lb m, by omega, rfl, S0, ?_, X2⟩
    have h1 := Bld.start fl w.heap.size lb 0 (.bool true)
    rw [HF.out] at h1
    exact h1
  case round =>
    clear S0 X2
    obtain ⟨i, s, hi, rfl, SS, RR, XX⟩ := hrel
    by_cases hlt : i < m
    · obtain ⟨e, he⟩ : ∃ e, es[i]? = some e := ⟨_, List.getElem?_eq_getElem (by rw [HM.out]; exact hlt)⟩
      have hmem := List.mem_of_getElem? he
      have HP0 : Qs w (.slice ao m pc) es := HP.out
      have hqp := HP0.2 e hmem
      obtain ⟨b0, off, rfl, g0, g1⟩ := Qs.at HP0 XX.out he
      have HLx : Hid (fl[i]? = some e.of) := by unfold Hid; rw [← HFE.out, List.getElem?_map, he]; rfl
      clear hmem HP0 he
      obtain ⟨eo, ev, l, ex⟩ := e
      have HL : Hid (fl[i]? = some l) := HLx.out
      have HLF : Hid (l.Nodup ∧ ∀ x ∈ l, 0 ≤ x ∧ x < 9223372036854775808) := HFL.out l (List.mem_of_getElem? HL.out)
      have HLL : Hid (l.length ≤ 1000000) := Nat.le_trans (flat_le HL.out) HT.out
      obtain ⟨la, lc, rfl, hl2, hl3⟩ := zs_shape (show Zs w eo l from hqp.1)
      obtain ⟨xa, xc, rfl, -, -⟩ := bs_shape (show Bs w ev ex from hqp.2)
      have HLZ : Hid (Zs w (.slice la l.length lc) l) := hqp.1
      obtain ⟨n, hn⟩ : ∃ n, l.length = n := ⟨_, rfl⟩
      obtain ⟨xl, hxl⟩ : ∃ n, ex.length = n := ⟨_, rfl⟩
      have HN : Hid (l.length = n) := hn
      have hn6 : n ≤ 1000000 := by rw [← hn]; exact HLL.out
      simp only [hn, hxl] at g0 g1 hl2 HLZ
      have him : i < 1000000 := by omega
      clear hn hxl hqp HLx
      go_upto_region 5 with fail
      obtain ⟨w3, hw3⟩ : ∃ x, wr.alloc (.cells #[.slice la n lc, .slice xa xl xc] 43) = x := ⟨_, rfl⟩
      have BX : Hid (w3.heap[wr.heap.size]? = some (.cells #[.slice la n lc, .slice xa xl xc] 43 (0, 0))) := by rw [← hw3]; exact heap_alloc_new _ _
      have S3 : Hid (Wt w.heap.size w3 p s) := by rw [← hw3]; exact SS.out.below (below_alloc _ _)
      have X3 : Hid (Below w.heap.size w w3) := by rw [← hw3]; exact XX.out.alloc XX.out.size _
      rw [hw3]
      obtain ⟨pb, hpb⟩ : ∃ x, wr.heap.size = x := ⟨_, rfl⟩
      rw [hpb] at BX ⊢
      have cb0 : w3.cell? ⟨pb, 0, none⟩ = some (.slice la n lc) := by simp [World.cell?, BX.out]
      clear hw3 hpb SS XX g0 g1
      go_wp2
      clear cb0
      go_loopw [24] (fun iv wr => ∃ (j : Nat) (s : SpS), j ≤ n ∧ iv = .int .i64 j ∧ Hid (Wt w.heap.size wr p s) ∧ Hid (Bld fl (.bool true) i (l.take j) s) ∧ Hid (Below w.heap.size w wr) ∧ Hid (wr.heap[pb]? = some (.cells #[.slice la n lc, .slice xa xl xc] 43 (0, 0)))) (fun iv _ => n - (intOf iv).toNat)
      case atStart => exact ⟨0, s, by omega, rfl, S3, RR, X3, BX⟩
      case round =>
        clear S3 RR X3 BX
        obtain ⟨j, s, hj, rfl, SS, RR, XX, BX⟩ := hrel
        by_cases hjl : j < n
        · obtain ⟨z, hz⟩ : ∃ z, l[j]? = some z := ⟨_, List.getElem?_eq_getElem (by rw [HN.out]; exact hjl)⟩
          have HZ0 : Zs w (.slice la n lc) l := HLZ.out
          obtain ⟨b1, off1, rfl, cz⟩ := zs_at HZ0 XX.out hz
          have HLj : Hid (l[j]? = some z) := hz
          have ZM : z ∈ l := List.mem_of_getElem? hz
          obtain ⟨hz0, hz1⟩ := HLF.out.2 z ZM
          have wz : (Lit.int .i64 z).wf = true := wf_i64 (by omega) hz1
          clear ZM hz HZ0
          obtain ⟨v0, hv0⟩ : ∃ v0, (s.f z).getD (.slice none 0 0) = v0 := ⟨_, rfl⟩
          have GG : Hid (∀ (W W' : World) (v : Value), Wt w.heap.size W p s → W.grownBy W' v0.ownBlock → OwnZ w.heap.size W' v ((s.G z).length + 1) (s.G z ++ [(i : Int)]) → (v.ownBlock = v0.ownBlock ∨ v.ownBlock = some W.heap.size) → WtC w.heap.size W' p (rowS s z (i : Int) v) ∧ MpO W' s.mb s.k s.f) := fun W W' v h1 h2 h3 h4 => by
            rw [← hv0] at h2 h4
            exact h1.grownRow z (i : Int) h2 h3 h4
          have OO : Hid (∀ W, Wt w.heap.size W p s → OwnZ w.heap.size W v0 (s.G z).length (s.G z)) := fun W h1 => by rw [← hv0]; exact h1.row0 z
          have LK : Hid (∀ W, Wt w.heap.size W p s → (Instr.lookup 83 (.map (some s.mb)) (.int .i64 z) false).run Try.prog W = .ok v0 W) := fun W h1 => by rw [← hv0]; exact h1.map.look Try.underlying83 (Try.zeroZs W) wz
          have CT : Hid (∀ (W : World) (q : Nat) (cs : Array Value) (t : TypeId), KeepsBut (RowBl s v0) wr W → t ≠ 3 → wr.heap[q]? = some (.cells cs t (0, 0)) → W.heap[q]? = some (.cells cs t (0, 0))) := fun W q cs t hW ht hq => by
            have hne : ¬ RowBl s v0 q := by
              rintro (h1 | h1)
              · obtain ⟨es, c, hmm⟩ := SS.out.map.isMap
                exact heap_neM hq hmm h1
              · rw [← hv0] at h1
                obtain ⟨u, h2, h3⟩ := SS.out.row0_ne z h1
                obtain ⟨cs', hc⟩ := (SS.out.rows z u h2).kind h3
                exact heap_ne hc hq (fun e => ht e.symm) rfl
            exact (hW.block q (Array.getElem?_eq_some_iff.1 hq).1 hne).trans hq
          have CP : Hid (∀ W, KeepsBut (RowBl s v0) wr W → W.cell? ⟨p, 0, none⟩ = some (.map (some s.mb))) := fun W hW => by
            have h1 := CT.out W p _ _ hW (by decide) SS.out.box
            simp [World.cell?, h1]
          have RB : Hid (∀ k, RowBl s v0 k → w.heap.size ≤ k) := by
            rintro k (h1 | h1)
            · rw [h1]; exact SS.out.bm
            · rw [← hv0] at h1
              obtain ⟨u, h2, h3⟩ := SS.out.row0_ne z h1
              exact ((SS.out.rows z u h2).lt k h3).1
          have KB : s.k ≤ 1000000000 := by
            have h1 := RR.out.k
            have h2 := flat_take_le fl i
            have h3 := HT.out
            have h4 := List.length_take_le j l
            have h5 := HLL.out
            have h6 := HN.out
            omega
          have GB : Hid ((s.G z).length + 1 ≤ 1000000000) := by
            have h1 := RR.out.G z
            have h2 : (inTo fl i z).length ≤ i := by
              unfold inTo
              rw [List.length_map]
              have := List.length_filter_le (fun e => decide (z ∈ fl.getD e [])) (List.range i)
              rwa [List.length_range] at this
            unfold Hid
            rw [h1, List.length_append]
            split <;> simp <;> omega
          clear hv0
          have SZ : Hid (w.heap.size ≤ wr.heap.size) := XX.out.size
          go_upto_region 8 with fail
          refine wp_region_any (by kernel_rfl) ?_
          obtain ⟨gs, hgs⟩ : ∃ gs : List (Value → World → Prop), gs = [IsV (Value.pointer (some { block := p, off := 0 })), IsV (Value.pointer (some { block := p, off := 0 })), IsV (.pointer (some ⟨p, 0, none⟩)), IsV (.map (some s.mb)), IsV (Value.int IntKind.i64 z), IsV (Value.pointer (some { block := p, off := 0 })), IsV (Value.pointer (some { block := p, off := 0 })), IsV (.pointer (some ⟨p, 0, none⟩)), IsV (.map (some s.mb)), IsV (Value.int IntKind.i64 z), IsV (v0), IsV (Value.int IntKind.i64 ↑i), IsAnyV, IsAnyV, IsAnyV] := ⟨_, rfl⟩
          have g0 : Hid (gs[0]? = some (IsV (Value.pointer (some { block := p, off := 0 })))) := by unfold Hid; rw [hgs]; rfl
          have g1 : Hid (gs[1]? = some (IsV (Value.pointer (some { block := p, off := 0 })))) := by unfold Hid; rw [hgs]; rfl
          have g2 : Hid (gs[2]? = some (IsV (.pointer (some ⟨p, 0, none⟩)))) := by unfold Hid; rw [hgs]; rfl
          have g3 : Hid (gs[3]? = some (IsV (.map (some s.mb)))) := by unfold Hid; rw [hgs]; rfl
          have g4 : Hid (gs[4]? = some (IsV (Value.int IntKind.i64 z))) := by unfold Hid; rw [hgs]; rfl
          have g5 : Hid (gs[5]? = some (IsV (Value.pointer (some { block := p, off := 0 })))) := by unfold Hid; rw [hgs]; rfl
          have g6 : Hid (gs[6]? = some (IsV (Value.pointer (some { block := p, off := 0 })))) := by unfold Hid; rw [hgs]; rfl
          have g7 : Hid (gs[7]? = some (IsV (.pointer (some ⟨p, 0, none⟩)))) := by unfold Hid; rw [hgs]; rfl
          have g8 : Hid (gs[8]? = some (IsV (.map (some s.mb)))) := by unfold Hid; rw [hgs]; rfl
          have g9 : Hid (gs[9]? = some (IsV (Value.int IntKind.i64 z))) := by unfold Hid; rw [hgs]; rfl
          have g10 : Hid (gs[10]? = some (IsV (v0))) := by unfold Hid; rw [hgs]; rfl
          have g11 : Hid (gs[11]? = some (IsV (Value.int IntKind.i64 ↑i))) := by unfold Hid; rw [hgs]; rfl
          have g12 : Hid (gs[12]? = some (IsAnyV)) := by unfold Hid; rw [hgs]; rfl
          have g13 : Hid (gs[13]? = some (IsAnyV)) := by unfold Hid; rw [hgs]; rfl
          have g14 : Hid (gs[14]? = some (IsAnyV)) := by unfold Hid; rw [hgs]; rfl
          have gk : Hid (∀ p ∈ gs, ∀ v (U U' : World), p v U → p v U') := by
            unfold Hid
            rw [hgs]
            simp only [List.forall_mem_cons]
            exact ⟨(fun _ _ _ h => h), (fun _ _ _ h => h), (fun _ _ _ h => h), (fun _ _ _ h => h), (fun _ _ _ h => h), (fun _ _ _ h => h), (fun _ _ _ h => h), (fun _ _ _ h => h), (fun _ _ _ h => h), (fun _ _ _ h => h), (fun _ _ _ h => h), (fun _ _ _ h => h), (fun _ _ _ h => h), (fun _ _ _ h => h), (fun _ _ _ h => h), by simp⟩
          clear hgs
          have JS : Hid (∀ W8 W8', Below W8.heap.size W8 W8' → (fun W8 => KeepsBut (RowBl s v0) wr W8) W8 → (fun W8 => KeepsBut (RowBl s v0) wr W8) W8') := fun W8 W8' hb h => h.trans (KeepsBut.ofBelow hb)
          have st12 : Hid (Stays (IsSrcI (i : Int))) := stays_srci _
          have st13 : Hid (Stays (IsRwW w.heap.size p s z (i : Int))) := stays_rwW _ _ _ _ _
          have st14 : Hid (Stays (IsRfW w.heap.size p s z (i : Int))) := stays_rfW _ _ _ _ _
          have su13 : Hid (∀ W8 W8', Below W8.heap.size W8 W8' → (fun W8 => Wt w.heap.size W8 p s) W8 → (fun W8 => Wt w.heap.size W8 p s) W8') := fun W8 W8' hb h => h.below hb
          refine wpAny_inv4 (fun listed ac W8 => ∃ xv8 : Nat → Value, ac = ⟨#[Value.slice (some { block := b0, off := off }) m pc, undef, Value.pointer none, Value.pointer (some { block := p, off := 0 }), Value.int IntKind.i64 ↑i, Value.pointer (some { block := pb, off := 0 }), undef, Value.int IntKind.i64 z, Value.map (some w.heap.size), Value.slice (some { block := b0, off := off }) m pc, Value.int IntKind.i64 ↑m, Value.slice (some { block := lb, off := 0 }) m m, Value.agg #[Value.map (some w.heap.size), Value.slice (some { block := lb, off := 0 }) m m, Value.slice none 0 0], Value.pointer (some { block := p, off := 0 }), Value.slice (some { block := b0, off := off }) m pc, Value.int IntKind.i64 ↑m, Value.int IntKind.i64 ↑i, Value.bool true, Value.int IntKind.i64 ↑i, Value.pointer (some { block := b0, off := off + i * 2 }), Value.agg #[Value.slice (some { block := b1, off := off1 }) n lc, Value.slice xa xl xc], Value.pointer (some { block := pb, off := 0 }), Value.slice (some { block := b1, off := off1 }) n lc, Value.int IntKind.i64 ↑n, Value.int IntKind.i64 ↑j, Value.bool true, Value.pointer (some { block := b1, off := off1 + j }), Value.int IntKind.i64 z, xv8 0, xv8 1, xv8 2, xv8 3, xv8 4, xv8 5, xv8 6, xv8 7, xv8 8, xv8 9, xv8 10, xv8 11, xv8 12, xv8 13, u42, u43, u44, u45, u46, u47, u48, u49, undef], []⟩ ∧ (fun W8 => KeepsBut (RowBl s v0) wr W8) W8 ∧ Lst gs listed xv8 W8 ∧ Fd listed xv8 W8 12 13 (IsSrcI (i : Int)) ∧ Fd listed xv8 W8 13 14 (IsRwW w.heap.size p s z (i : Int)) ∧ Fe listed xv8 W8 14 (IsRfW w.heap.size p s z (i : Int)) ∧ Fz listed W8 13 (fun W8 => Wt w.heap.size W8 p s)) (by kernel_rfl) ?_ ?_ _ _ _ _ (by kernel_rfl) (of_decide_eq_true (by kernel_rfl)) (Down.start _) ⟨fun jx => if jx = 0 then u28 else if jx = 1 then u29 else if jx = 2 then u30 else if jx = 3 then u31 else if jx = 4 then u32 else if jx = 5 then u33 else if jx = 6 then u34 else if jx = 7 then u35 else if jx = 8 then u36 else if jx = 9 then u37 else if jx = 10 then u38 else if jx = 11 then u39 else if jx = 12 then u40 else if jx = 13 then u41 else undef, rfl, KeepsBut.drew _ _, Lst.start _ _ _ _, Fd.start _ _ _ _ _ _, Fd.start _ _ _ _ _ _, Fe.start _ _ _ _ _, Fz.start (SS.out.below (below0 _))⟩
          · go_light
            rintro listed ac W8 ⟨xv8, rfl, hb, hG, hF12, hF13, hF14, hU13⟩ hD i hi hnl hd
            have hin : i < 15 := hi
            clear hi
            have hcase : i = 0 ∨ i = 1 ∨ i = 2 ∨ i = 3 ∨ i = 4 ∨ i = 5 ∨ i = 6 ∨ i = 7 ∨ i = 8 ∨ i = 9 ∨ i = 10 ∨ i = 11 ∨ i = 12 ∨ i = 13 ∨ i = 14 := by omega
            rcases hcase with rfl | rfl | rfl | rfl | rfl | rfl | rfl | rfl | rfl | rfl | rfl | rfl | rfl | rfl | rfl
            · refine wpOp_step rfl (fun K' hK => ?_)
              clear hd hin hD
              go_simp
              exact hK _ _ ⟨updV xv8 0 (Value.pointer (some { block := p, off := 0 })), by simp [updV], hb, hG.any gk.out g0.out _ rfl, hF12.step (fun _ h => h) (by decide) (by decide) _, hF13.step (fun _ h => h) (by decide) (by decide) _, hF14.step (fun _ h => h) (by decide) _, hU13.step (fun h => h) (by decide)⟩
            · refine wpOp_step rfl (fun K' hK => ?_)
              simp [Region.binds] at hd
              have e0 : xv8 0 = Value.pointer (some { block := p, off := 0 }) := hG.get g0.out (by simp [hd])
              clear hd hin hD
              go_simp
              exact hK _ _ ⟨updV xv8 1 (Value.pointer (some { block := p, off := 0 })), by simp [updV, e0], hb, hG.any gk.out g1.out _ rfl, hF12.step (fun _ h => h) (by decide) (by decide) _, hF13.step (fun _ h => h) (by decide) (by decide) _, hF14.step (fun _ h => h) (by decide) _, hU13.step (fun h => h) (by decide)⟩
            · refine wpOp_step rfl (fun K' hK => ?_)
              simp [Region.binds] at hd
              have e1 : xv8 1 = Value.pointer (some { block := p, off := 0 }) := hG.get g1.out (by simp [hd])
              clear hd hin hD
              go_simp
              exact hK _ _ ⟨updV xv8 2 (.pointer (some ⟨p, 0, none⟩)), by simp [updV, e1], hb, hG.any gk.out g2.out _ rfl, hF12.step (fun _ h => h) (by decide) (by decide) _, hF13.step (fun _ h => h) (by decide) (by decide) _, hF14.step (fun _ h => h) (by decide) _, hU13.step (fun h => h) (by decide)⟩
            · refine wpOp_step rfl (fun K' hK => ?_)
              simp [Region.binds] at hd
              have e2 : xv8 2 = .pointer (some ⟨p, 0, none⟩) := hG.get g2.out (by simp [hd])
              have c0 := CP.out W8 hb
              clear hd hin hD
              go_simp
              exact hK _ _ ⟨updV xv8 3 (.map (some s.mb)), by simp [updV, e2], hb, hG.any gk.out g3.out _ rfl, hF12.step (fun _ h => h) (by decide) (by decide) _, hF13.step (fun _ h => h) (by decide) (by decide) _, hF14.step (fun _ h => h) (by decide) _, hU13.step (fun h => h) (by decide)⟩
            · refine wpOp_step rfl (fun K' hK => ?_)
              clear hd hin hD
              go_simp
              exact hK _ _ ⟨updV xv8 4 (Value.int IntKind.i64 z), by simp [updV], hb, hG.any gk.out g4.out _ rfl, hF12.step (fun _ h => h) (by decide) (by decide) _, hF13.step (fun _ h => h) (by decide) (by decide) _, hF14.step (fun _ h => h) (by decide) _, hU13.step (fun h => h) (by decide)⟩
            · refine wpOp_step rfl (fun K' hK => ?_)
              clear hd hin hD
              go_simp
              exact hK _ _ ⟨updV xv8 5 (Value.pointer (some { block := p, off := 0 })), by simp [updV], hb, hG.any gk.out g5.out _ rfl, hF12.step (fun _ h => h) (by decide) (by decide) _, hF13.step (fun _ h => h) (by decide) (by decide) _, hF14.step (fun _ h => h) (by decide) _, hU13.step (fun h => h) (by decide)⟩
            · refine wpOp_step rfl (fun K' hK => ?_)
              simp [Region.binds] at hd
              have e5 : xv8 5 = Value.pointer (some { block := p, off := 0 }) := hG.get g5.out (by simp [hd])
              clear hd hin hD
              go_simp
              exact hK _ _ ⟨updV xv8 6 (Value.pointer (some { block := p, off := 0 })), by simp [updV, e5], hb, hG.any gk.out g6.out _ rfl, hF12.step (fun _ h => h) (by decide) (by decide) _, hF13.step (fun _ h => h) (by decide) (by decide) _, hF14.step (fun _ h => h) (by decide) _, hU13.step (fun h => h) (by decide)⟩
            · refine wpOp_step rfl (fun K' hK => ?_)
              simp [Region.binds] at hd
              have e6 : xv8 6 = Value.pointer (some { block := p, off := 0 }) := hG.get g6.out (by simp [hd])
              clear hd hin hD
              go_simp
              exact hK _ _ ⟨updV xv8 7 (.pointer (some ⟨p, 0, none⟩)), by simp [updV, e6], hb, hG.any gk.out g7.out _ rfl, hF12.step (fun _ h => h) (by decide) (by decide) _, hF13.step (fun _ h => h) (by decide) (by decide) _, hF14.step (fun _ h => h) (by decide) _, hU13.step (fun h => h) (by decide)⟩
            · refine wpOp_step rfl (fun K' hK => ?_)
              simp [Region.binds] at hd
              have e7 : xv8 7 = .pointer (some ⟨p, 0, none⟩) := hG.get g7.out (by simp [hd])
              have c0 := CP.out W8 hb
              clear hd hin hD
              go_simp
              exact hK _ _ ⟨updV xv8 8 (.map (some s.mb)), by simp [updV, e7], hb, hG.any gk.out g8.out _ rfl, hF12.step (fun _ h => h) (by decide) (by decide) _, hF13.step (fun _ h => h) (by decide) (by decide) _, hF14.step (fun _ h => h) (by decide) _, hU13.step (fun h => h) (by decide)⟩
            · refine wpOp_step rfl (fun K' hK => ?_)
              clear hd hin hD
              go_simp
              exact hK _ _ ⟨updV xv8 9 (Value.int IntKind.i64 z), by simp [updV], hb, hG.any gk.out g9.out _ rfl, hF12.step (fun _ h => h) (by decide) (by decide) _, hF13.step (fun _ h => h) (by decide) (by decide) _, hF14.step (fun _ h => h) (by decide) _, hU13.step (fun h => h) (by decide)⟩
            · refine wpOp_step rfl (fun K' hK => ?_)
              simp [Region.binds] at hd
              have e8 : xv8 8 = .map (some s.mb) := hG.get g8.out (by simp [hd])
              have e9 : xv8 9 = Value.int IntKind.i64 z := hG.get g9.out (by simp [hd])
              have f13 : listed.getD 13 false = false := by
                cases hx : listed.getD 13 false with
                | false => rfl
                | true =>
                  have r10 : listed.getD 10 false = true := by have h := hD 13 (by decide) hx; simp [Region.binds] at h; simp [h]
                  rw [getD_false hnl] at r10; cases r10
              have u13 := hU13 f13
              have kr := LK.out W8 u13
              clear hd hin hD
              go_simp
              exact hK _ _ ⟨updV xv8 10 (v0), by simp [updV, e8, e9], hb, hG.any gk.out g10.out _ rfl, hF12.step (fun _ h => h) (by decide) (by decide) _, hF13.step (fun _ h => h) (by decide) (by decide) _, hF14.step (fun _ h => h) (by decide) _, hU13.step (fun h => h) (by decide)⟩
            · refine wpOp_step rfl (fun K' hK => ?_)
              clear hd hin hD
              go_simp
              exact hK _ _ ⟨updV xv8 11 (Value.int IntKind.i64 ↑i), by simp [updV], hb, hG.any gk.out g11.out _ rfl, hF12.step (fun _ h => h) (by decide) (by decide) _, hF13.step (fun _ h => h) (by decide) (by decide) _, hF14.step (fun _ h => h) (by decide) _, hU13.step (fun h => h) (by decide)⟩
            · refine wpOp_step rfl (fun K' hK => ?_)
              simp [Region.binds] at hd
              have e11 : xv8 11 = Value.int IntKind.i64 ↑i := hG.get g11.out (by simp [hd])
              clear hd hin hD
              go_simp
              exact hK _ _ ⟨updV xv8 12 (.slice (some ⟨W8.heap.size, 0, none⟩) 1 1), by simp [updV, e11], JS.out _ _ (below_alloc _ _) hb, hG.any gk.out g12.out _ trivial, Fd.new (zs_one _ _ _), hF13.on st13.out (below_alloc _ _) (by decide) (by decide) _, hF14.on st14.out (below_alloc _ _) (by decide) _, hU13.step (su13.out _ _ (below_alloc _ _)) (by decide)⟩
            · refine wpOp_step rfl (fun K' hK => ?_)
              simp [Region.binds] at hd
              have e10 : xv8 10 = v0 := hG.get g10.out (by simp [hd])
              have l12 : listed.getD 12 false = true := by simp [hd]
              have m12 := hF12.get l12 hnl
              have f14 : listed.getD 14 false = false := by
                cases hx : listed.getD 14 false with
                | false => rfl
                | true =>
                  have r13 : listed.getD 13 false = true := by have h := hD 14 (by decide) hx; simp [Region.binds] at h; simp [h]
                  rw [getD_false hnl] at r13; cases r13
              have u13 := hU13.get hnl
              clear hd hin hD
              refine step_addZ W8 rfl (.tmp 38) (.tmp 40) rfl w.heap.size v0 (s.G z).length (s.G z) e10 (OO.out W8 u13) _ 1 [(i : Int)] rfl m12 GB.out (Nat.le_trans SZ.out hb.size) ?_
              intro ao' cap' w' ho hg hat hnc hcm
              have hgr := GG.out W8 w' _ u13 hg ho hat
              exact hK _ _ ⟨updV xv8 13 (.slice ao' ((s.G z).length + 1) cap'), by simp [updV, Act.put], hb.trans (KeepsBut.ofGrownO hg (fun q hq => .inl (.inr hq))), hG.any gk.out g13.out _ trivial, Fd.off hnl, Fd.new (hgr), Fe.yet f14 (by decide) _, Fz.off hnl⟩
            · refine wpOp_step rfl (fun K' hK => ?_)
              simp [Region.binds] at hd
              have e3 : xv8 3 = .map (some s.mb) := hG.get g3.out (by simp [hd])
              have e4 : xv8 4 = Value.int IntKind.i64 z := hG.get g4.out (by simp [hd])
              have l13 : listed.getD 13 false = true := by simp [hd]
              have m13 := hF13.get l13 hnl
              have q13 : listed.getD 13 false = true := by simp [hd]
              clear hd hin hD
              obtain ⟨hC, hM⟩ := m13
              obtain ⟨w', hrun, hM', hg'⟩ := hM.update Try.underlying83 KB wz (xv8 13)
              go_simp
              exact hK _ _ ⟨updV xv8 14 undef, by simp [updV, e3, e4], hb.trans (KeepsBut.ofGrown hg' (.inl rfl)), hG.any gk.out g14.out _ trivial, Fd.gone q13 (by decide), Fd.off hnl, Fe.new (⟨_, hC.mapped hM hg' hM'⟩), Fz.gone q13 (by decide)⟩
          · rintro listed ac W8 ⟨xv8, rfl, hb, hG, hF12, hF13, hF14, hU13⟩ hall
            have m14 : Hid ((IsRfW w.heap.size p s z (i : Int)) (xv8 14) W8) := hF14 (hall 14 (by decide))
            have XW : Hid ((fun W8 => KeepsBut (RowBl s v0) wr W8) W8) := hb
            clear hall hG hb gk JS g0 g1 g2 g3 g4 g5 g6 g7 g8 g9 g10 g11 g12 g13 g14 hF12 st12 hF13 st13 hF14 st14 hU13 su13
            obtain ⟨v8, hS8⟩ := m14.out
            have S8 : Hid (Wt w.heap.size W8 p (rowS s z (i : Int) v8)) := hS8
            have X8 : Hid (Below w.heap.size w W8) := XX.out.trans (XW.out.below SZ.out RB.out)
            have BX8 : Hid (W8.heap[pb]? = some (.cells #[.slice (some ⟨b1, off1, none⟩) n lc, .slice xa xl xc] 43 (0, 0))) := CT.out W8 pb _ _ XW.out (by decide) BX.out
            have R8 : Hid (Bld fl (.bool true) i (l.take (j + 1)) { rowS s z (i : Int) v8 with r := updN s.r i (xorI (s.r i) z) }) := by
              have hnt : z ∉ l.take j := not_taken HLF.out.1 HLj.out
              have h1 := RR.out.block HL.out hnt hz0 (fun x hx => (HLF.out.2 x (List.mem_of_mem_take hx)).1) v8
              obtain ⟨h2, h3⟩ := List.getElem?_eq_some_iff.1 HLj.out
              unfold Hid
              rw [List.take_succ_eq_append_getElem h2, h3]
              exact h1
            have T8 : Hid (Wt w.heap.size W8 p { rowS s z (i : Int) v8 with r := updN s.r i (xorI (s.r i) z) }) := S8.out.ghost (updN s.r i (xorI (s.r i) z)) s.ssv s.ss
            clear m14 hS8 XW LK GG OO CP CT RB KB GB RR SS BX XX S8
            go_wp2
            go_roundw
            case rel => exact ⟨j + 1, _, by omega, by go_num, T8, R8, X8, BX8⟩
            case measure => simp [intOf]; omega
        · obtain rfl : n = j := by omega
          have R2 : Hid (Bld fl (.bool true) i l s) := by
            have h1 := RR.out
            rwa [List.take_of_length_le (by rw [HN.out]; exact Nat.le_refl _)] at h1
          have FL : Hid (s.FF.length ≤ 1000000) := by have := R2.out.len; unfold Hid; omega
          have R3 : Hid (∀ u, Bld fl (.bool true) (i + 1) [] { s with h := updN s.h i (n : Int), fsv := u, FF := if (n : Int) = 1 then s.FF ++ [(i : Int)] else s.FF }) := fun u => by
            have h1 := R2.out.leave HL.out u
            rw [HN.out] at h1
            exact h1
          have hsm : s.m = m := by rw [R2.out.m]; exact HF.out
          have cb0 : wr.cell? ⟨pb, 0, none⟩ = some (.slice la n lc) := by simp [World.cell?, BX.out]
          have SZ : Hid (w.heap.size ≤ wr.heap.size) := XX.out.size
          clear RR R2
          go_wp2_with fail
          refine (wleave_any w.heap.size p m s i (n : Int) wr SS.out SZ.out hsm hlt FL.out).mono ?_
          rintro e w5 ⟨rfl, ⟨u, S5⟩, X5, -⟩
          have S6 : Hid (Wt w.heap.size w5 p { s with h := updN s.h i (n : Int), fsv := u, FF := if (n : Int) = 1 then s.FF ++ [(i : Int)] else s.FF }) := S5
          have R6 : Hid (Bld fl (.bool true) (i + 1) [] { s with h := updN s.h i (n : Int), fsv := u, FF := if (n : Int) = 1 then s.FF ++ [(i : Int)] else s.FF }) := R3.out u
          have X6 : Hid (Below w.heap.size w w5) := XX.out.trans X5
          clear S5 X5 SS XX FL R3 hsm cb0 BX
          go_wp2
          go_roundw
          case rel => exact ⟨i + 1, _, by omega, by go_num, S6, R6, X6⟩
          case measure => simp [intOf]; omega
    · obtain rfl : m = i := by omega
      have R0 : Hid (Run fl (.bool true) s) := by
        have h1 := RR.out
        rw [← HF.out] at h1
        exact h1.run
      have hss : s.ss = [] := RR.out.ss
      clear RR
      go_wp2
      go_ret
      exact ⟨p, s, rfl, SS.out, R0.out, hss, XX.out⟩

end Go.Proofs.Ytkckbeekehecnaa
