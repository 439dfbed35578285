/-
  RippleOnce: its walk.
-/
import Derived.Test.YtkckbeekehecnaaRU
namespace Go.Proofs.Ytkckbeekehecnaa
open Go.RowKit Go.Maps
set_option linter.unusedVariables false
set_option maxRecDepth 100000

theorem pushI_all : ∀ (l e : List Int), (∀ x ∈ l, x ∈ e) → pushI e l = e
  | [], e, _ => rfl
  | x :: l, e, h => by
    rw [pushI, if_pos (h x List.mem_cons_self)]
    exact pushI_all l e fun y hy => h y (List.mem_cons_of_mem _ hy)
theorem QuW.again {w0 W W1 W2 : World} {p : Nat} {ev : Value} {n t : Nat} {L : List Int} {s : QuS} (h : QuW w0 p ev n t L s W) (hp : w0.heap.size ≤ p) (ht : t ≤ L.length) (hb : Below W.heap.size W W1) (hq : QuSt p s W1 L W2) : ∃ s', QuW w0 p ev n t L s' W2 := by
  obtain ⟨s', q2, e2, r2, k2, o2⟩ := hq
  have h1 := h.below hb
  refine ⟨s', q2, e2, ?_, h1.o.kept fun q hq => k2.block q (h1.o.lt q hq).2 (h.d q hq), ?_, h1.b.trans (k2.below h1.b.size fun k hk => Nat.le_trans hp (h.q.lt k hk).1)⟩
  · rw [r2, h.r, h.e, List.drop_length, List.append_nil]
  · intro b hb' hs'
    rcases o2 b hs' with h2 | h2
    · exact h.d b hb' h2
    · have := (h1.o.lt b hb').2
      omega
/-- Behind so many pushes of the same numbers. -/
def OnceQ (w0 : World) (p i : Nat) (L : List Int) (W : World) : Prop := ∃ s, Qu W p s ∧ s.row = s.ever ∧ s.ever = (if i = 0 then [] else L) ∧ Below w0.heap.size w0 W
theorem OnceQ.next {w0 W W2 : World} {p i : Nat} {l : List Int} {s : QuS} (hp : w0.heap.size ≤ p) (h : Qu W p s) (hr : s.row = s.ever) (he : s.ever = (if i = 0 then [] else pushI [] l)) (hb : Below w0.heap.size w0 W) (hq : QuSt p s W (pushI s.ever l) W2) : OnceQ w0 p (i + 1) (pushI [] l) W2 := by
  obtain ⟨s', q2, e2, r2, k2, o2⟩ := hq
  refine ⟨s', q2, ?_, ?_, hb.trans (k2.below hb.size fun k hk => Nat.le_trans hp (h.lt k hk).1)⟩
  · rw [r2, e2, hr]
    obtain ⟨r, h1, -⟩ := pushI_pre l s.ever
    rw [h1, List.drop_left]
  · rw [e2, he, if_neg (show ¬ (i + 1 = 0) by omega)]
    by_cases hi : i = 0
    · rw [if_pos hi]
    · rw [if_neg hi]
      exact pushI_all _ _ fun x hx => pushI_mem.2 (.inr hx)

set_option maxHeartbeats 4000000 in
theorem rippleOnce_walk (lv : Value) (l : List Int) (A : Int) (w : World) (hz : Sl 1 w lv l.length (l.map (Value.int .i64))) (hwf : ∀ z ∈ l, (Lit.int .i64 z).wf = true) (hA : (Lit.int .u8 A).wf = true) :
    Calls Try.prog 8 #[lv, .int .u8 A] w fun e w' => e = .returned (.bool true) ∧ Below w.heap.size w w' := by
  have HZ : Hid (Zs w lv l) := hz
  have HW : Hid (∀ z ∈ l, (Lit.int .i64 z).wf = true) := hwf
  obtain ⟨la, lc, rfl, hl1, hlc⟩ := zs_shape HZ.out
  obtain ⟨ln, hln⟩ : ∃ x, l.length = x := ⟨_, rfl⟩
  have HLN : Hid (l.length = ln) := hln
  have hA2 : 0 ≤ A ∧ A ≤ 255 := by simpa [Lit.wf, IntKind.min, IntKind.max, IntKind.bits, IntKind.signed] using hA
  obtain ⟨hA0, hA1⟩ := hA2
  rw [hln] at HZ hl1 ⊢
  have NO : Hid (∀ (b p : Nat), w.heap.size ≤ p → (Value.slice la ln lc).ownBlock = some b → 0 < ln → b < p) := by
    intro b p hp hb h0
    have h1 := HZ.out
    obtain ⟨-, a', c', hv, -, -, -, h5⟩ := h1
    injection hv with e1 e2 e3
    subst e1
    rcases h5 with h5 | ⟨b', off', h7, h8⟩
    · omega
    · rw [h7] at hb
      have h9 := Option.some.inj hb
      have h6 : 0 < l.length := by omega
      have h10 := h8 0 (.int .i64 l[0]) (by simp [h6])
      have h11 := cell_block_lt h10
      simp at h9 h11
      omega
  clear hz hwf hA hln
  go_enter Try.func8, Try.ntmps8
  go_wp2_with fail
  refine (speaks18_any w).mono ?_
  rintro e w0 ⟨rfl, hb⟩
  have B0 : Hid (Below w.heap.size w w0) := hb
  clear hb
  by_cases h200 : 200 < ln
  · have h200I : (200 : Int) < (ln : Int) := by omega
    go_wp2
    go_ret
    exact ⟨rfl, B0.out⟩
  have h200I : ¬ (200 : Int) < (ln : Int) := by omega
  go_upto_region 6 with fail
  have QI : Hid (OnceQ w0 w0.heap.size 0 (pushI [] l) (w0.alloc (.cells #[.map none, .slice none 0 0] 51))) := ⟨_, Qu.new w0, rfl, rfl, below_alloc _ _⟩
  generalize w0.alloc (.cells #[.map none, .slice none 0 0] 51) = w1 at *
  obtain ⟨p, hp⟩ : ∃ p, w0.heap.size = p := ⟨_, rfl⟩
  have HP : Hid (w0.heap.size = p) := hp
  rw [hp] at QI ⊢
  clear hp
  obtain ⟨k, hk⟩ : ∃ k : Nat, A = k := ⟨A.toNat, by omega⟩
  subst hk
  go_wp2
  obtain ⟨r, hr⟩ : ∃ r : Nat, 1 + (k : Int) % 4 = r := ⟨1 + k % 4, by omega⟩
  have hr1 : 1 ≤ r := by omega
  have hr4 : r ≤ 4 := by omega
  rw [hr]
  obtain ⟨L, hL⟩ : ∃ x, pushI [] l = x := ⟨_, rfl⟩
  have HL : Hid (pushI [] l = L) := hL
  rw [hL] at QI
  have HP1 : Hid (w0.heap.size ≤ p ∧ w.heap.size ≤ p) := by
    have h1 := HP.out
    have h2 := B0.out.size
    unfold Hid
    omega
  have NW : Hid (∀ (W : World) (s : QuS), Qu W p s → 0 < l.length → ∀ b, (Value.slice la ln lc).ownBlock = some b → ¬ s.own p b) := fun W s hq h0 b hb ho => by
    have h1 := NO.out b p HP1.out.2 hb (by rw [← HLN.out]; exact h0)
    have h2 := (hq.lt b ho).1
    omega
  clear hL NO
  go_loopw [23] (fun iv wr => ∃ (i : Nat), i ≤ r ∧ iv = .int .i64 i ∧ Hid (OnceQ w0 p i L wr)) (fun iv _ => r - (intOf iv).toNat)
  case atStart => exact ⟨0, by omega, rfl, QI⟩
  case round =>
    obtain ⟨i, hi, rfl, QQ⟩ := hrel
    clear QI
    by_cases hlt : i < r
    · have hltI : (i : Int) < (r : Int) := by omega
      obtain ⟨s, q1, r1, e1, b1⟩ := QQ.out
      have hel : s.ever.length ≤ ln := by
        rw [e1]
        by_cases h0 : i = 0
        · rw [if_pos h0]; simp
        · rw [if_neg h0, ← HL.out]
          have h1 := (pushI_len [] l).2
          rw [HLN.out] at h1
          simpa using h1
      have P := qupush_any p s (.slice la ln lc) l wr q1 (HZ.out.below (on_below B0.out b1)) (NW.out wr s q1) HW.out (by rw [HLN.out]; omega) (by rw [r1, HLN.out]; omega)
      have FIN : Hid (∀ W2, QuSt p s wr (pushI s.ever l) W2 → OnceQ w0 p (i + 1) L W2) := fun W2 hq => by
        have e2 := e1
        rw [← HL.out] at e2 ⊢
        exact OnceQ.next HP1.out.1 q1 r1 e2 b1 hq
      obtain ⟨nn, hnn⟩ : ∃ z : Int, ((pushI s.ever l).length : Int) - (s.ever.length : Int) = z := ⟨_, rfl⟩
      rw [hnn] at P
      clear q1 r1 e1 b1 hel hnn QQ
      go_wp2_with fail
      refine P.mono ?_
      rintro e w3 ⟨rfl, hq⟩
      have Q3 : Hid (OnceQ w0 p (i + 1) L w3) := FIN.out w3 hq
      clear hq P FIN
      go_wp2
      go_roundw
      case rel => exact ⟨i + 1, by omega, by go_num, Q3⟩
      case measure => simp [intOf]; omega
    · obtain rfl : r = i := by omega
      obtain ⟨s, q1, r1, e1, b1⟩ := QQ.out
      rw [if_neg (by omega)] at e1
      have BW := on_below B0.out b1
      have QS : Hid (Qu wr p s ∧ s.row = L ∧ s.ever = L ∧ Below w0.heap.size w0 wr) := ⟨q1, by rw [r1, e1], e1, b1⟩
      have HLL : Hid (L.length ≤ ln) := by
        have h1 := (pushI_len [] l).2
        rw [HL.out, HLN.out] at h1
        unfold Hid
        simpa using h1
      clear q1 r1 e1 b1 QQ
      go_wp2_with fail
      refine (rpush18_any (.slice none 0 0) (.slice la ln lc) [] l wr (OwnZ.nil 0 wr).zs (HZ.out.below BW) (by rw [HLN.out]; simp; omega)).mono ?_
      rintro e w3 ⟨a3, n3, c3, rfl, ho3, hb3⟩
      rw [HL.out] at ho3 ⊢
      have hn3 : L.length = n3 := ho3.len
      have Q3 : Hid (QuW w0 p (.slice a3 n3 c3) n3 0 L s w3) := ⟨QS.out.1.below hb3, QS.out.2.2.1, by rw [QS.out.2.1]; rfl, ho3.mono (Nat.zero_le _), fun b hb ho => by
        have h1 := (ho3.lt b hb).1
        have h2 := (QS.out.1.lt b ho).2
        omega, on_below QS.out.2.2.2 hb3⟩
      have HN3 : Hid (L.length = n3) := hn3
      have h0n : (((L.length : Nat) : Int) - (([] : List Int).length : Int)) = (n3 : Int) := by rw [hn3]; simp
      rw [h0n]
      have hn200 : n3 ≤ 200 := by have := HLL.out; omega
      have WL : Hid (∀ z ∈ L, (Lit.int .i64 z).wf = true ∧ z ∈ l) := fun z hz => by
        have h1 := HL.out
        rw [← h1] at hz
        rcases pushI_mem.1 hz with h2 | h2
        · cases h2
        · exact ⟨HW.out z h2, h2⟩
      clear ho3 hb3 hn3 h0n QS BW HLL
      go_wp2
      go_loopw [35] (fun iv wr => ∃ (i : Nat) (s : QuS), i ≤ n3 ∧ iv = .int .i64 i ∧ Hid (QuW w0 p (.slice a3 n3 c3) n3 i L s wr)) (fun iv _ => n3 - (intOf iv).toNat)
      case atStart => exact ⟨0, s, by omega, rfl, Q3⟩
      case round =>
        obtain ⟨i, s, hi, rfl, QQ⟩ := hrel
        clear Q3
        have PP := qupop_any p s wr QQ.out.q (by rw [QQ.out.r, List.length_drop, HN3.out]; omega)
        by_cases hlt2 : i < n3
        · have hltI2 : (i : Int) < (n3 : Int) := by omega
          obtain ⟨y, hy⟩ : ∃ y, L[i]? = some y := ⟨_, List.getElem?_eq_getElem (by rw [HN3.out]; exact hlt2)⟩
          obtain ⟨rr, hrr⟩ : ∃ r, s.row = y :: r := by
            refine ⟨L.drop (i + 1), ?_⟩
            have h1 : i < L.length := by rw [HN3.out]; exact hlt2
            rw [QQ.out.r, List.drop_eq_getElem_cons h1]
            congr 1
            have h2 := List.getElem?_eq_getElem h1
            rw [hy] at h2
            exact (Option.some.inj h2).symm
          obtain ⟨b5, off5, rfl, ck5⟩ := zs_at QQ.out.o.zs (Below.refl _ _) hy
          have hyl := List.mem_of_getElem? hy
          go_upto_region 14 with fail
          go_wp2_with fail
          refine PP.mono ?_
          rintro e w4 ⟨-, h3⟩
          obtain ⟨rfl, v4, q4, hv4, k4⟩ := h3 y rr hrr
          obtain ⟨q5, -⟩ := QuW.popped QQ.out HP1.out.1 hrr q4 hv4 k4
          have Q5 : Hid (QuW w0 p (.slice (some ⟨b5, off5, none⟩) n3 c3) n3 (i + 1) L ⟨s.mv, v4, s.ever, rr⟩ w4) := q5
          have Q6 := q5.below (below_alloc w4 (.cells #[.int .i64 y] 3))
          have P6 := qupush_any p _ (.slice (some ⟨w4.heap.size, 0, none⟩) 1 1) [y] _ Q6.q (zs_lit1 w4 y 3 _ rfl) (fun _ => Qu.fresh q5.q (Nat.le_refl _)) (by intro z hz; rw [List.mem_singleton.1 hz]; exact (WL.out y hyl).1) (by rw [Q6.e, HN3.out]; simp; omega) (by rw [Q6.r, List.length_drop, HN3.out]; simp; omega)
          have hev : (⟨s.mv, v4, s.ever, rr⟩ : QuS).ever = L := Q6.e
          have hpl : pushI L [y] = L := pushI_all _ _ fun z hz => by rw [List.mem_singleton.1 hz]; exact hyl
          rw [hev, hpl, Int.sub_self] at P6
          have FIN : Hid (∀ W2, QuSt p ⟨s.mv, v4, L, rr⟩ (w4.alloc (.cells #[.int .i64 y] 3)) L W2 → ∃ s', QuW w0 p (.slice (some ⟨b5, off5, none⟩) n3 c3) n3 (i + 1) L s' W2) := fun W2 hq => QuW.again Q5.out HP1.out.1 (by rw [HN3.out]; omega) (below_alloc _ _) (by rw [show s.ever = L from hev]; exact hq)
          clear h3 q4 q5 Q6 hv4 k4 hrr hy hyl PP QQ hev hpl Q5
          go_wp2_with fail
          refine P6.mono ?_
          rintro e w5 ⟨rfl, hq⟩
          obtain ⟨s5, q5⟩ := FIN.out w5 hq
          have Q7 : Hid (QuW w0 p (.slice (some ⟨b5, off5, none⟩) n3 c3) n3 (i + 1) L s5 w5) := q5
          clear hq q5 FIN P6
          go_wp2
          go_roundw
          case rel => exact ⟨i + 1, s5, by omega, by go_num, Q7⟩
          case measure => simp [intOf]; omega
        · obtain rfl : n3 = i := by omega
          have hr0 : s.row = [] := by rw [QQ.out.r]; exact List.drop_eq_nil_of_le (by rw [HN3.out]; exact Nat.le_refl _)
          go_wp2_with fail
          refine PP.mono ?_
          rintro e w4 ⟨h3, -⟩
          obtain ⟨rfl, rfl⟩ := h3 hr0
          have P6 := qupush_any p s (.slice la ln lc) l w4 QQ.out.q (HZ.out.below (on_below B0.out QQ.out.b)) (NW.out w4 s QQ.out.q) HW.out (by rw [QQ.out.e, HN3.out, HLN.out]; omega) (by rw [hr0, HLN.out]; simp; omega)
          have hev : s.ever = L := QQ.out.e
          have hpl : pushI L l = L := pushI_all _ _ fun z hz => by rw [← HL.out]; exact pushI_mem.2 (.inr hz)
          rw [hev, hpl, Int.sub_self] at P6
          have BE : Hid (∀ W2, QuSt p s w4 L W2 → Below w.heap.size w W2) := fun W2 hq => by
            obtain ⟨s', h⟩ := QuW.again QQ.out HP1.out.1 (by rw [HN3.out]; omega) (Below.refl _ _) hq
            exact on_below B0.out h.b
          clear h3 PP QQ hr0 hev hpl
          go_wp2_with fail
          refine P6.mono ?_
          rintro e w5 ⟨rfl, hq⟩
          have B5 := BE.out w5 hq
          clear hq P6
          go_wp2
          go_ret
          exact ⟨rfl, B5⟩

end Go.Proofs.Ytkckbeekehecnaa
