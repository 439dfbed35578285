/-
  RippleDoes: its walk.
-/
import Derived.Test.YtkckbeekehecnaaRT
namespace Go.Proofs.Ytkckbeekehecnaa
open Go.RowKit Go.Maps Go.ChangeShapes Go.WideShapes Go.ChangeAt
set_option linter.unusedVariables false
set_option maxRecDepth 100000

section
variable {w : World} {base : Nat} {spare : Nat → Bool} {held : Bool} {H : Type} {enc : TypeId × Value → H}
theorem ract_of_trod {fuel : Nat} {v : Value} {x : DataW H × List MemPlace} (h : DataW.trod enc Try.prog w base spare held fuel 53 [v] = some x) : ∃ l : List Int, Zs w v l ∧ ∀ z ∈ l, (Lit.int .i64 z).wf = true := by
  obtain ⟨xs, n, _, hx, hl, hlen, hg⟩ := DataW.trod_struct Try.underlying53 h
  match xs, hlen with
  | [(y0, p0)], _ =>
    have u0 : DataW.trod enc Try.prog w base spare held n 31 [v] = some (y0, p0) := by have h1 := hg 0 _ rfl; simpa [show Try.prog.cellsOf 31 = 1 from by kernel_rfl] using h1
    exact zs_of_trod u0
theorem racts_of_trod {fuel : Nat} {v : Value} {x : DataW H × List MemPlace}
    (h : DataW.trod enc Try.prog w base spare held fuel 48 [v] = some x) : ∃ (vs : List Value) (ls : List (List Int)), Sl 1 w v vs.length vs ∧ LsZ w vs ls ∧ ∀ l ∈ ls, ∀ z ∈ l, (Lit.int .i64 z).wf = true := by
  rcases Go.Deep.open_slice1 Try.underlying48 (by kernel_rfl) h with ⟨hcs, _⟩ | ⟨a, len, cap, m, n, V, D, Pl, hcs, _, hl, hm, hmm, _, hx⟩
  · injection hcs with hv _
    subst hv
    exact ⟨[], [], ⟨rfl, none, 0, rfl, Nat.le_refl _, by simp [maxLen], fun _ => rfl, .inl rfl⟩, ⟨rfl, fun i v p h => by simp at h⟩, fun l hl => by cases hl⟩
  · injection hcs with hv _
    have hlm : len ≤ m := by rw [hmm]; split <;> omega
    obtain ⟨F, hF⟩ := Go.Deep.choose_lt (α := List Int) (n := len) (p := fun i y => Zs w (V i) y ∧ ∀ z ∈ y, (Lit.int .i64 z).wf = true) (fun i hi => by
      obtain ⟨h1, h2⟩ := hx i (by omega)
      exact ract_of_trod h2)
    refine ⟨(List.range len).map V, (List.range len).map F, ⟨by simp, some a, cap, by simpa using hv, by simpa using hl, hm, fun h => by simp at h, ?_⟩, ⟨by simp, ?_⟩, ?_⟩
    · by_cases h0 : len = 0
      · exact .inl (by simpa using h0)
      · right
        have ha : a = ⟨a.block, a.off, none⟩ := addr_none (u := V 0) (by simpa [Addr.add] using (hx 0 (by omega)).1)
        refine ⟨a.block, a.off, by rw [← ha], ?_⟩
        intro j u hj
        have hjl : j < len := by have := (List.getElem?_eq_some_iff.1 hj).1; simpa using this
        simp [hjl] at hj
        subst hj
        have hc := (hx j (by omega)).1
        rw [ha, Addr.add_lit] at hc
        exact hc
    · intro i v p hv hp
      have hi : i < len := by have := (List.getElem?_eq_some_iff.1 hv).1; simpa using this
      simp [hi] at hv hp
      subst hv; subst hp
      exact (hF i hi).1
    · intro y hy
      obtain ⟨i, hi, rfl⟩ := List.mem_map.1 hy
      exact (hF i (by simpa using hi)).2
end

/-- Where the queue and the document's numbers stand. -/
structure QuW (w0 : World) (p : Nat) (ev : Value) (n t : Nat) (L : List Int) (s : QuS) (W : World) : Prop where
  q : Qu W p s
  e : s.ever = L
  r : s.row = L.drop t
  o : OwnZ 0 W ev n L
  d : ∀ b, ev.ownBlock = some b → ¬ s.own p b
  b : Below w0.heap.size w0 W
theorem QuW.below {w0 W W' : World} {p : Nat} {ev : Value} {n t : Nat} {L : List Int} {s : QuS} (h : QuW w0 p ev n t L s W) (hb : Below W.heap.size W W') : QuW w0 p ev n t L s W' :=
  ⟨h.q.below hb, h.e, h.r, h.o.below hb, h.d, on_below h.b hb⟩
theorem QuW.pushed {w0 W W1 W2 : World} {p : Nat} {ev ev' : Value} {n n' t : Nat} {L l : List Int} {s : QuS} (h : QuW w0 p ev n t L s W) (hp : w0.heap.size ≤ p) (ht : t ≤ L.length) (hb : Below W.heap.size W W1) (ho : OwnZ W.heap.size W1 ev' n' (pushI L l)) (hq : QuSt p s W1 (pushI s.ever l) W2) : ∃ s', QuW w0 p ev' n' t (pushI L l) s' W2 := by
  obtain ⟨s', q2, e2, r2, k2, o2⟩ := hq
  rw [h.e] at e2 r2
  have hlt : ∀ b, ev'.ownBlock = some b → ¬ s.own p b := fun b hb' hs => by
    have h1 := (ho.lt b hb').1
    have h2 := (h.q.lt b hs).2
    omega
  refine ⟨s', q2, e2, ?_, (ho.mono (Nat.zero_le _)).kept fun q hq => k2.block q (ho.lt q hq).2 (hlt q hq), ?_, (on_below h.b hb).trans (k2.below (Nat.le_trans h.b.size hb.size) fun k hk => Nat.le_trans hp (h.q.lt k hk).1)⟩
  · rw [r2, h.r, ← List.drop_append_of_le_length ht]
    obtain ⟨r, hr, -⟩ := pushI_pre l L
    rw [hr, List.drop_left]
  · intro b hb' hs'
    rcases o2 b hs' with h1 | h1
    · exact hlt b hb' h1
    · have := (ho.lt b hb').2
      omega
theorem QuW.popped {w0 W W2 : World} {p : Nat} {ev : Value} {n t : Nat} {L : List Int} {s : QuS} {v : Value} {x : Int} {r : List Int} (h : QuW w0 p ev n t L s W) (hp : w0.heap.size ≤ p) (hr : s.row = x :: r) (q2 : Qu W2 p ⟨s.mv, v, s.ever, r⟩) (hv : v.ownBlock = s.rv.ownBlock) (hk : KeepsBut (s.own p) W W2) : QuW w0 p ev n (t + 1) L ⟨s.mv, v, s.ever, r⟩ W2 ∧ L[t]? = some x := by
  have h1 := h.r
  rw [hr] at h1
  refine ⟨⟨q2, h.e, ?_, h.o.kept fun q hq => hk.block q (h.o.lt q hq).2 (h.d q hq), ?_, h.b.trans (hk.below h.b.size fun k hk => Nat.le_trans hp (h.q.lt k hk).1)⟩, ?_⟩
  · have h2 : (L.drop t).drop 1 = L.drop (t + 1) := by rw [List.drop_drop]
    rw [← h1] at h2
    exact h2
  · rintro b hb (hz | hz | hz)
    · exact h.d b hb (.inl hz)
    · exact h.d b hb (.inr (.inl hz))
    · exact h.d b hb (.inr (.inr (by rw [← hv]; exact hz)))
  · have h2 : (L.drop t)[0]? = L[t]? := by rw [List.getElem?_drop]; rfl
    rw [← h1] at h2
    exact h2.symm

set_option maxHeartbeats 4000000 in
theorem rippleDoes_walk (pv : Value) (vs : List Value) (ls : List (List Int)) (x : Int) (w : World) (hp : Sl 1 w pv vs.length vs) (hz : LsZ w vs ls) (hwf : ∀ l ∈ ls, ∀ z ∈ l, (Lit.int .i64 z).wf = true) (hx : (Lit.int .i64 x).wf = true) :
    Calls Try.prog 7 #[pv, .int .i64 x] w fun e w' => e = .returned (.bool true) ∧ Below w.heap.size w w' := by
  have HZ : Hid (LsZ w vs ls) := hz
  have HW : Hid (∀ l ∈ ls, ∀ z ∈ l, (Lit.int .i64 z).wf = true) := hwf
  have HX : Hid ((Lit.int .i64 x).wf = true) := hx
  obtain ⟨m, hm⟩ : ∃ m, vs.length = m := ⟨_, rfl⟩
  have HM : Hid (vs.length = m) := hm
  obtain ⟨-, ao, cap, rfl, hc1, hc2, -, hc⟩ := hp
  rw [hm] at hc1 hc ⊢
  unfold maxLen at hc2
  have CK : Hid (∀ (i : Nat) (u : Value) (wr : World), vs[i]? = some u → Below w.heap.size w wr → ∃ b off, ao = some ⟨b, off, none⟩ ∧ wr.cell? ⟨b, off + i, none⟩ = some u) := by
    intro i u wr hi hk
    rcases hc with h0 | ⟨b, off, rfl, hc⟩
    · have := (List.getElem?_eq_some_iff.1 hi).1
      omega
    · have h1 := hc i u hi
      exact ⟨b, off, rfl, (hk.cell (cell_block_lt h1)).trans h1⟩
  clear hz hwf hx hc hm
  go_enter Try.func7, Try.ntmps7
  go_wp2_with fail
  refine (speaks18_any w).mono ?_
  rintro e w0 ⟨rfl, hb⟩
  have B0 : Hid (Below w.heap.size w w0) := hb
  clear hb
  by_cases h200 : 200 < m
  · have h200I : (200 : Int) < (m : Int) := by omega
    go_wp2
    go_ret
    exact ⟨rfl, B0.out⟩
  have h200I : ¬ (200 : Int) < (m : Int) := by omega
  go_upto_region 8 with fail
  have QI : Hid (QuW w0 w0.heap.size (.slice none 0 0) 0 0 [] ⟨.map none, .slice none 0 0, [], []⟩ (w0.alloc (.cells #[.map none, .slice none 0 0] 51))) := ⟨Qu.new w0, rfl, rfl, OwnZ.nil _ _, (fun b hb => by cases hb), below_alloc _ _⟩
  generalize w0.alloc (.cells #[.map none, .slice none 0 0] 51) = w1 at *
  obtain ⟨p, hp⟩ : ∃ p, w0.heap.size = p := ⟨_, rfl⟩
  have HP : Hid (w0.heap.size = p) := hp
  rw [hp] at QI ⊢
  clear hp
  go_wp2
  go_loopw [6, 7, 21] (fun ev tv iv wr => ∃ (i n c t : Nat) (a : Option Addr) (L : List Int) (s : QuS), i ≤ m ∧ iv = .int .i64 i ∧ tv = .int .i64 t ∧ ev = .slice a n c ∧ t ≤ n ∧ n ≤ 20 * i ∧ Hid (QuW w0 p (.slice a n c) n t L s wr)) (fun _ _ iv _ => m - (intOf iv).toNat)
  case atStart => exact ⟨0, 0, 0, 0, none, [], _, by omega, rfl, rfl, rfl, by omega, by omega, QI⟩
  case round =>
    obtain ⟨i, n, c, t, a, L, s, hi, rfl, rfl, rfl, htn, hn20, QQ⟩ := hrel
    clear QI
    by_cases hlt : i < m
    · have hltI : (i : Int) < (m : Int) := by omega
      obtain ⟨l, hl⟩ : ∃ l, ls[i]? = some l := ⟨_, List.getElem?_eq_getElem (by rw [← HZ.out.1, HM.out]; exact hlt)⟩
      obtain ⟨lv, hlv, hlz⟩ := HZ.out.at hl
      obtain ⟨b, off, rfl, ck⟩ := CK.out i lv wr hlv (on_below B0.out QQ.out.b)
      have HWL : Hid (∀ z ∈ l, (Lit.int .i64 z).wf = true) := HW.out l (List.mem_of_getElem? hl)
      have HLZ : Hid (Zs w lv l) := hlz
      obtain ⟨la, lc, rfl, hl1, hlc⟩ := zs_shape hlz
      obtain ⟨ln, hln⟩ : ∃ x, l.length = x := ⟨_, rfl⟩
      have HLN : Hid (l.length = ln) := hln
      rw [hln] at ck HLZ hl1
      have hln9 : ln ≤ 9223372036854775807 := by omega
      clear hlz hlv hl hln hl1
      go_upto_region 11 with fail
      obtain ⟨w2, hw2⟩ : ∃ x, wr.alloc (.cells #[.slice la ln lc] 53) = x := ⟨_, rfl⟩
      have cb : w2.cell? ⟨wr.heap.size, 0, none⟩ = some (.slice la ln lc) := by rw [← hw2, World.cell?_alloc_new]; rfl
      have X2 : Hid (Below wr.heap.size wr w2) := by rw [← hw2]; exact below_alloc _ _
      rw [hw2]
      clear hw2 ck
      have Q2 : Hid (QuW w0 p (.slice a n c) n t L s w2) := QQ.out.below X2.out
      have PX : Hid (p ≤ wr.heap.size) := Nat.le_of_lt QQ.out.q.plt
      obtain ⟨px, hpx⟩ : ∃ x, wr.heap.size = x := ⟨_, rfl⟩
      rw [hpx] at cb X2 PX ⊢
      have BW : Hid (Below w.heap.size w w2) := on_below B0.out Q2.out.b
      have HPW : Hid (w.heap.size ≤ p) := by have h1 := B0.out.size; have h2 := HP.out; unfold Hid; omega
      by_cases h20 : 20 < ln
      · have h20I : (20 : Int) < (ln : Int) := by omega
        go_wp2
        go_ret
        exact ⟨rfl, BW.out⟩
      have h20I : ¬ (20 : Int) < (ln : Int) := by omega
      have hn4 : n ≤ 4000 := by omega
      by_cases h0 : 0 < ln
      · have h0I : (0 : Int) < (ln : Int) := by omega
        go_upto_region 14 with fail
        go_wp2_with fail
        refine (rpush18_any (.slice a n c) (.slice la ln lc) L l w2 Q2.out.o.zs (HLZ.out.below BW.out) (by have h1 := Q2.out.o.len; have h2 := HLN.out; omega)).mono ?_
        rintro e w3 ⟨a3, n3, c3, rfl, ho3, hb3⟩
        have O3 : Hid (OwnZ w2.heap.size w3 (.slice a3 n3 c3) n3 (pushI L l)) := ho3
        have X3 : Hid (Below w2.heap.size w2 w3) := hb3
        have cb3 := (hb3.cell (cell_block_lt cb)).trans cb
        have hn3 : n3 ≤ n + ln ∧ t ≤ n3 := by
          have h1 := ho3.len
          have h2 := pushI_len L l
          have h3 := Q2.out.o.len
          have h4 := HLN.out
          omega
        obtain ⟨hn3, ht3⟩ := hn3
        have P3 := qupush_any p s (.slice la ln lc) l w3 (Q2.out.q.below hb3) (HLZ.out.below (on_below BW.out hb3)) (fun _ b hb ho => by
          have h1 := (Q2.out.q.lt b ho).1
          have h2 := HPW.out
          have h3 : b < w.heap.size := by
            obtain ⟨-, a', c', hv, -, -, -, h5⟩ := HLZ.out
            injection hv with e1 e2 e3
            subst e1
            have h6 : 0 < l.length := by rw [HLN.out]; exact h0
            rcases h5 with h5 | ⟨b', off', h7, h8⟩
            · omega
            · rw [h7] at hb
              have h9 := Option.some.inj hb
              have h10 := h8 0 (.int .i64 l[0]) (by simp [h6])
              have h11 := cell_block_lt h10
              simp at h9 h11
              omega
          omega) HWL.out (by rw [Q2.out.e]; have h1 := Q2.out.o.len; have h2 := HLN.out; omega) (by rw [Q2.out.r, List.length_drop]; have h1 := Q2.out.o.len; have h2 := HLN.out; omega)
        have PQ : Hid (∀ W2, QuSt p s w3 (pushI s.ever l) W2 → ∃ s', QuW w0 p (.slice a3 n3 c3) n3 t (pushI L l) s' W2) := fun W2 hq => QuW.pushed Q2.out (by have h2 := HP.out; omega) (by have h1 := Q2.out.o.len; omega) X3.out O3.out hq
        rw [Q2.out.e] at P3
        have PE : Hid (s.ever = L) := Q2.out.e
        obtain ⟨nn, hnn⟩ : ∃ z : Int, ((pushI L l).length : Int) - (L.length : Int) = z := ⟨_, rfl⟩
        rw [hnn] at P3 ⊢
        clear hnn ho3 hb3 cb X3 O3 QQ Q2
        go_wp2_with fail
        refine P3.mono ?_
        rintro e w4 ⟨rfl, hq4⟩
        rw [← PE.out] at hq4
        obtain ⟨s4, q4⟩ := PQ.out w4 hq4
        rw [PE.out] at hq4
        obtain ⟨L4, hL4⟩ : ∃ x, pushI L l = x := ⟨_, rfl⟩
        rw [hL4] at q4
        have QT : Hid (QuW w0 p (.slice a3 n3 c3) n3 t L4 s4 w4) := q4
        clear q4 hq4 P3 PQ PE hL4
        go_upto_region 23 with fail
        have HN : Hid (L4.length = n3) := QT.out.o.len
        have hrow : (((s4).row.length : Nat) : Int) = (n3 : Int) - (t : Int) := by
          have h1 := HN.out
          rw [QT.out.r, List.length_drop, h1]
          omega
        have k1 := qulen_any p s4 w4 QT.out.q
        have k2 := quever_any p s4 x w4 QT.out.q HX.out
        have k3 := rhas_any x (.slice a3 n3 c3) L4 w4 QT.out.o.zs
        rw [hrow] at k1
        rw [QT.out.e] at k2
        obtain ⟨bb, hbb⟩ : ∃ b, decide (x ∈ L4) = b := ⟨_, rfl⟩
        rw [hbb] at k2 k3
        clear hrow hbb
        go_wp2_with fail
        refine k1.mono ?_
        rintro e w9 ⟨rfl, rfl⟩
        go_wp2_with fail
        refine k2.mono ?_
        rintro e w9 ⟨rfl, rfl⟩
        go_wp2_with fail
        refine k3.mono ?_
        rintro e w9 ⟨rfl, rfl⟩
        clear k1 k2 k3
        go_wp2
        go_roundw
        case rel => exact ⟨i + 1, n3, c3, t, a3, L4, s4, by omega, by go_num, rfl, rfl, by omega, by omega, QT⟩
        case measure => simp [intOf]; omega
      · have h0I : ¬ (0 : Int) < (ln : Int) := by omega
        have PP := qupop_any p s w2 Q2.out.q (by rw [Q2.out.r, List.length_drop]; have h1 := Q2.out.o.len; omega)
        have HLe : Hid (L.length = n) := Q2.out.o.len
        by_cases htn2 : t < n
        · obtain ⟨y, hy⟩ : ∃ y, L[t]? = some y := ⟨_, List.getElem?_eq_getElem (by rw [HLe.out]; exact htn2)⟩
          obtain ⟨r, hr⟩ : ∃ r, s.row = y :: r := by
            refine ⟨L.drop (t + 1), ?_⟩
            have h1 : t < L.length := by rw [HLe.out]; exact htn2
            rw [Q2.out.r, List.drop_eq_getElem_cons h1]
            congr 1
            have h2 := List.getElem?_eq_getElem h1
            rw [hy] at h2
            exact (Option.some.inj h2).symm
          have HY : Hid (L[t]? = some y) := hy
          have htI : (t : Int) < (n : Int) := by omega
          go_upto_region 18 with fail
          go_wp2_with fail
          refine PP.mono ?_
          rintro e w3 ⟨-, h3⟩
          obtain ⟨rfl, v3, q3, hv3, k3⟩ := h3 y r hr
          obtain ⟨q4, -⟩ := QuW.popped Q2.out (by have h2 := HP.out; omega) hr q3 hv3 k3
          have QT : Hid (QuW w0 p (.slice a n c) n (t + 1) L ⟨s.mv, v3, s.ever, r⟩ w3) := q4
          obtain ⟨b5, off5, rfl, ck5⟩ := zs_at q4.o.zs (Below.refl _ _) hy
          clear h3 q3 q4 hv3 k3 hr hy PP QQ Q2 cb
          go_upto_region 23 with fail
          have HN : Hid (L.length = n) := QT.out.o.len
          have hrow : ((((⟨s.mv, v3, s.ever, r⟩ : QuS)).row.length : Nat) : Int) = (n : Int) - ((t + 1) : Int) := by
            have h1 := HN.out
            rw [QT.out.r, List.length_drop, h1]
            omega
          have k1 := qulen_any p (⟨s.mv, v3, s.ever, r⟩ : QuS) w3 QT.out.q
          have k2 := quever_any p (⟨s.mv, v3, s.ever, r⟩ : QuS) x w3 QT.out.q HX.out
          have k3 := rhas_any x (.slice (some ⟨b5, off5, none⟩) n c) L w3 QT.out.o.zs
          rw [hrow] at k1
          rw [QT.out.e] at k2
          obtain ⟨bb, hbb⟩ : ∃ b, decide (x ∈ L) = b := ⟨_, rfl⟩
          rw [hbb] at k2 k3
          clear hrow hbb
          go_wp2_with fail
          refine k1.mono ?_
          rintro e w9 ⟨rfl, rfl⟩
          go_wp2_with fail
          refine k2.mono ?_
          rintro e w9 ⟨rfl, rfl⟩
          go_wp2_with fail
          refine k3.mono ?_
          rintro e w9 ⟨rfl, rfl⟩
          clear k1 k2 k3
          go_wp2
          go_roundw
          case rel => exact ⟨i + 1, n, c, (t + 1), (some ⟨b5, off5, none⟩), L, (⟨s.mv, v3, s.ever, r⟩ : QuS), by omega, by go_num, by go_num, rfl, by omega, by omega, QT⟩
          case measure => simp [intOf]; omega
        · obtain rfl : n = t := by omega
          have hr : s.row = [] := by rw [Q2.out.r]; exact List.drop_eq_nil_of_le (by rw [HLe.out]; exact Nat.le_refl _)
          go_upto_region 18 with fail
          go_wp2_with fail
          refine PP.mono ?_
          rintro e w3 ⟨h3, -⟩
          obtain ⟨rfl, rfl⟩ := h3 hr
          have QT : Hid (QuW w0 p (.slice a n c) n n L s w3) := Q2.out
          clear h3 hr PP QQ Q2 cb
          go_upto_region 23 with fail
          have HN : Hid (L.length = n) := QT.out.o.len
          have hrow : (((s).row.length : Nat) : Int) = (n : Int) - (n : Int) := by
            have h1 := HN.out
            rw [QT.out.r, List.length_drop, h1]
            omega
          have k1 := qulen_any p s w3 QT.out.q
          have k2 := quever_any p s x w3 QT.out.q HX.out
          have k3 := rhas_any x (.slice a n c) L w3 QT.out.o.zs
          rw [hrow] at k1
          rw [QT.out.e] at k2
          obtain ⟨bb, hbb⟩ : ∃ b, decide (x ∈ L) = b := ⟨_, rfl⟩
          rw [hbb] at k2 k3
          clear hrow hbb
          go_wp2_with fail
          refine k1.mono ?_
          rintro e w9 ⟨rfl, rfl⟩
          go_wp2_with fail
          refine k2.mono ?_
          rintro e w9 ⟨rfl, rfl⟩
          go_wp2_with fail
          refine k3.mono ?_
          rintro e w9 ⟨rfl, rfl⟩
          clear k1 k2 k3
          go_wp2
          go_roundw
          case rel => exact ⟨i + 1, n, c, n, a, L, s, by omega, by go_num, rfl, rfl, by omega, by omega, QT⟩
          case measure => simp [intOf]; omega
    · obtain rfl : m = i := by omega
      have BE : Hid (Below w.heap.size w wr) := on_below B0.out QQ.out.b
      clear QQ
      go_wp2
      go_ret
      exact ⟨rfl, BE.out⟩

theorem rippleDoes_law (pv : Value) (vs : List Value) (ls : List (List Int)) (x : Int) (w : World) (h : Sl 1 w pv vs.length vs ∧ LsZ w vs ls ∧ ∀ l ∈ ls, ∀ z ∈ l, (Lit.int .i64 z).wf = true) (hx : (Lit.int .i64 x).wf = true) :
    Calls Try.prog 7 #[pv, .int .i64 x] w fun e w' => e = .returned (.bool true) ∧ Below w.heap.size w w' := rippleDoes_walk pv vs ls x w h.1 h.2.1 h.2.2 hx

end Go.Proofs.Ytkckbeekehecnaa
