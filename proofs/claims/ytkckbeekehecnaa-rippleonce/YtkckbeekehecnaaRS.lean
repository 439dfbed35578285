/-
  ripple: Push, and the document's.
-/
import Derived.Test.YtkckbeekehecnaaRR
import Derived.Test.YtkckbeekehecnaaZSmp
namespace Go.Proofs.Ytkckbeekehecnaa
open Go.RowKit Go.Maps
set_option linter.unusedVariables false
set_option maxRecDepth 100000

/-- Numbers that never were there, behind all that were. -/
def pushI : List Int → List Int → List Int
  | e, [] => e
  | e, x :: l => pushI (if x ∈ e then e else e ++ [x]) l
theorem pushI_snoc (x : Int) : ∀ (l e : List Int), pushI e (l ++ [x]) = if x ∈ pushI e l then pushI e l else pushI e l ++ [x]
  | [], e => rfl
  | y :: l, e => pushI_snoc x l _
theorem pushI_next {e l : List Int} {i : Nat} {x : Int} (h : l[i]? = some x) : pushI e (l.take (i + 1)) = if x ∈ pushI e (l.take i) then pushI e (l.take i) else pushI e (l.take i) ++ [x] := by
  obtain ⟨h1, h2⟩ := List.getElem?_eq_some_iff.1 h
  rw [List.take_succ_eq_append_getElem h1, h2, pushI_snoc]
theorem pushI_pre : ∀ (l e : List Int), ∃ r, pushI e l = e ++ r ∧ r.length ≤ l.length
  | [], e => ⟨[], by simp [pushI], by simp⟩
  | x :: l, e => by
    obtain ⟨r, h1, h2⟩ := pushI_pre l (if x ∈ e then e else e ++ [x])
    by_cases hx : x ∈ e
    · rw [if_pos hx] at h1
      exact ⟨r, by rw [pushI, if_pos hx, h1], by rw [List.length_cons]; omega⟩
    · rw [if_neg hx] at h1
      exact ⟨x :: r, by rw [pushI, if_neg hx, h1]; simp, by rw [List.length_cons, List.length_cons]; omega⟩
theorem pushI_len (e l : List Int) : e.length ≤ (pushI e l).length ∧ (pushI e l).length ≤ e.length + l.length := by
  obtain ⟨r, h1, h2⟩ := pushI_pre l e
  rw [h1, List.length_append]
  omega
theorem pushI_mem {e l : List Int} {x : Int} : x ∈ pushI e l ↔ x ∈ e ∨ x ∈ l := by
  induction l generalizing e with
  | nil => simp [pushI]
  | cons y l ih =>
    rw [pushI, ih]
    by_cases hy : y ∈ e
    · rw [if_pos hy, List.mem_cons]
      constructor
      · rintro (h | h)
        · exact .inl h
        · exact .inr (.inr h)
      · rintro (h | rfl | h)
        · exact .inl h
        · exact .inl hy
        · exact .inr h
    · rw [if_neg hy, List.mem_append, List.mem_singleton, List.mem_cons]
      constructor
      · rintro ((h | h) | h)
        · exact .inl h
        · exact .inr (.inl h)
        · exact .inr (.inr h)
      · rintro (h | h | h)
        · exact .inl (.inl h)
        · exact .inl (.inr h)
        · exact .inr h
/-- What a queue's row is, of all that were put. -/
def QuSt (p : Nat) (s0 : QuS) (W : World) (L : List Int) (w' : World) : Prop :=
  ∃ s', Qu w' p s' ∧ s'.ever = L ∧ s'.row = s0.row ++ L.drop s0.ever.length ∧ KeepsBut (s0.own p) W w' ∧ ∀ z, s'.own p z → s0.own p z ∨ W.heap.size ≤ z
theorem QuSt.start {p : Nat} {s : QuS} {W : World} (h : Qu W p s) : QuSt p s W s.ever W := ⟨s, h, rfl, by simp, KeepsBut.refl _ _, fun z hz => .inl hz⟩
theorem QuSt.added {p : Nat} {s0 s1 s2 : QuS} {W w1 w2 : World} {L : List Int} {x : Int} (hl : s0.ever.length ≤ L.length) (h1 : s1.ever = L) (h2 : s1.row = s0.row ++ L.drop s0.ever.length) (hk : KeepsBut (s0.own p) W w1) (ho : ∀ z, s1.own p z → s0.own p z ∨ W.heap.size ≤ z)
    (q2 : Qu w2 p s2) (e2 : s2.ever = s1.ever ++ [x]) (r2 : s2.row = s1.row ++ [x]) (k2 : KeepsBut (s1.own p) w1 w2) (o2 : ∀ z, s2.own p z → s1.own p z ∨ w1.heap.size ≤ z) : QuSt p s0 W (L ++ [x]) w2 := by
  refine ⟨s2, q2, by rw [e2, h1], ?_, hk.andThen k2 ho, fun z hz => ?_⟩
  · rw [r2, h2, List.drop_append_of_le_length hl, List.append_assoc]
  · rcases o2 z hz with h | h
    · exact ho z h
    · exact .inr (Nat.le_trans hk.size h)

set_option maxHeartbeats 1000000 in
/-- PUSH. -/
theorem qupush_any (p : Nat) (s : QuS) (lv : Value) (l : List Int) (W : World) (h : Qu W p s) (hz : Zs W lv l) (hno : 0 < l.length → ∀ b, lv.ownBlock = some b → ¬ s.own p b) (hwf : ∀ x ∈ l, (Lit.int .i64 x).wf = true) (h9 : s.ever.length + l.length ≤ 1000000) (h8 : s.row.length + l.length ≤ 1000000) :
    Calls Try.prog 21 #[.pointer (some ⟨p, 0, none⟩), lv] W fun e w' => e = .returned (.int .i64 (((pushI s.ever l).length : Int) - (s.ever.length : Int))) ∧ QuSt p s W (pushI s.ever l) w' := by
  have HQ : Hid (Qu W p s) := h
  have HZ : Hid (Zs W lv l) := hz
  have HW : Hid (∀ x ∈ l, (Lit.int .i64 x).wf = true) := hwf
  have H9 : Hid (s.ever.length + l.length ≤ 1000000 ∧ s.row.length + l.length ≤ 1000000) := ⟨h9, h8⟩
  have HL := qulen_any p s W h
  obtain ⟨m, hm⟩ : ∃ m, l.length = m := ⟨_, rfl⟩
  have HM : Hid (l.length = m) := hm
  obtain ⟨-, ao, cap, rfl, hc1, hc2, -, hc⟩ := hz
  rw [hm] at hc1 HZ ⊢
  unfold maxLen at hc2
  have CK : Hid (∀ (i : Nat) (x : Int) (wr : World), l[i]? = some x → KeepsBut (s.own p) W wr → ∃ b off, ao = some ⟨b, off, none⟩ ∧ wr.cell? ⟨b, off + i, none⟩ = some (.int .i64 x)) := by
    intro i x wr hi hk
    rcases hc with h0 | ⟨b, off, rfl, hc⟩
    · rw [h0] at hm
      have := (List.getElem?_eq_some_iff.1 hi).1
      omega
    · refine ⟨b, off, rfl, ?_⟩
      have h1 := hc i (.int .i64 x) (by simp [hi])
      exact (World.cell?_of_block (a := ⟨b, off + i, none⟩) (hk.block b (cell_block_lt h1) (hno (by have := (List.getElem?_eq_some_iff.1 hi).1; omega) b rfl))).trans h1
  clear h hc hno hwf h9 h8 hm
  obtain ⟨r, hr⟩ : ∃ r, s.row.length = r := ⟨_, rfl⟩
  have HR : Hid (s.row.length = r) := hr
  rw [hr] at HL
  go_enter Try.func21, Try.ntmps21
  go_wp2_with fail
  refine HL.mono ?_
  rintro e w1 ⟨rfl, rfl⟩
  clear HL
  go_wp2
  have Q0 : Hid (QuSt p s w1 (pushI s.ever (l.take 0)) w1) := QuSt.start HQ.out
  go_loopw [12] (fun iv wr => ∃ (i : Nat), i ≤ m ∧ iv = .int .i64 i ∧ Hid (QuSt p s w1 (pushI s.ever (l.take i)) wr)) (fun iv _ => m - (intOf iv).toNat)
  case atStart => exact ⟨0, by omega, rfl, Q0⟩
  case round =>
    obtain ⟨i, hi, rfl, QQ⟩ := hrel
    clear Q0
    obtain ⟨s1, q1, e1, r1, k1, o1⟩ := QQ.out
    by_cases hlt : i < m
    · have hltI : (i : Int) < (m : Int) := by omega
      obtain ⟨x, hx⟩ : ∃ x, l[i]? = some x := ⟨_, List.getElem?_eq_getElem (by rw [HM.out]; exact hlt)⟩
      have HX : Hid (l[i]? = some x) := hx
      have hwx := HW.out x (List.mem_of_getElem? hx)
      have hev := quever_any p s1 x wr q1 hwx
      have HB : Hid (s1.ever.length ≤ 1000000 ∧ s1.row.length ≤ 1000000) := by
        have h1 := pushI_len s.ever (l.take i)
        have h2 := H9.out
        have h3 : (l.take i).length = i := by rw [List.length_take, HM.out]; omega
        rw [HM.out] at h2
        unfold Hid
        rw [r1, e1, List.length_append, List.length_drop]
        omega
      obtain ⟨b, off, rfl, ck⟩ := CK.out i x wr hx k1
      have PN : Hid (pushI s.ever (l.take (i + 1)) = if x ∈ s1.ever then pushI s.ever (l.take i) else pushI s.ever (l.take i) ++ [x]) := by rw [e1]; exact pushI_next hx
      clear hx
      by_cases hin : x ∈ s1.ever
      · have hd : @decide (x ∈ s1.ever) (List.instDecidableMemOfLawfulBEq x s1.ever) = true := by simpa using hin
        rw [hd] at hev
        have Q2 : Hid (QuSt p s w1 (pushI s.ever (l.take (i + 1))) wr) := by
          unfold Hid
          rw [PN.out, if_pos hin]
          exact QQ.out
        clear PN hin hd q1 e1 r1 k1 o1 QQ hwx
        go_wp2_with fail
        refine hev.mono ?_
        rintro e w2 ⟨rfl, rfl⟩
        clear hev
        go_wp2
        go_roundw
        case rel => exact ⟨i + 1, by omega, by go_num, Q2⟩
        case measure => simp [intOf]; omega
      · have hd : @decide (x ∈ s1.ever) (List.instDecidableMemOfLawfulBEq x s1.ever) = false := by simpa using hin
        rw [hd] at hev
        have had := quadd_any p s1 x wr q1 hwx HB.out.1 HB.out.2
        have FIN : Hid (∀ (w2 : World) (s2 : QuS), Qu w2 p s2 → s2.ever = s1.ever ++ [x] → s2.row = s1.row ++ [x] → KeepsBut (s1.own p) wr w2 → (∀ z, s2.own p z → s1.own p z ∨ wr.heap.size ≤ z) → QuSt p s w1 (pushI s.ever (l.take (i + 1))) w2) := by
          intro w2 s2 a1 a2 a3 a4 a5
          rw [PN.out, if_neg hin]
          exact QuSt.added (pushI_len s.ever (l.take i)).1 e1 r1 k1 o1 a1 a2 a3 a4 a5
        clear PN hin hd q1 e1 r1 k1 o1 QQ hwx
        go_wp2_with fail
        refine hev.mono ?_
        rintro e w2 ⟨rfl, rfl⟩
        clear hev
        go_wp2_with fail
        refine had.mono ?_
        rintro e w3 ⟨rfl, s2, a1, a2, a3, a4, a5⟩
        have Q2 : Hid (QuSt p s w1 (pushI s.ever (l.take (i + 1))) w3) := FIN.out w3 s2 a1 a2 a3 a4 a5
        clear had FIN a1 a2 a3 a4 a5
        go_wp2
        go_roundw
        case rel => exact ⟨i + 1, by omega, by go_num, Q2⟩
        case measure => simp [intOf]; omega
    · obtain rfl : m = i := by omega
      have QE : Hid (QuSt p s w1 (pushI s.ever l) wr) := by
        have h1 := QQ.out
        rw [List.take_of_length_le (by rw [HM.out]; exact Nat.le_refl _)] at h1
        exact h1
      have hle := qulen_any p s1 wr q1
      have hrl : Hid ((s1.row.length : Int) = (r : Int) + (((pushI s.ever l).length : Int) - (s.ever.length : Int)) ∧ s1.row.length ≤ 1000000) := by
        have h1 := pushI_len s.ever l
        have h2 := H9.out
        have h3 := HR.out
        rw [List.take_of_length_le (by rw [HM.out]; exact Nat.le_refl _)] at r1
        unfold Hid
        rw [r1, List.length_append, List.length_drop]
        omega
      clear q1 e1 r1 k1 o1 QQ
      have hr6 : r ≤ 1000000 := by have := H9.out; have := HR.out; omega
      obtain ⟨n1, hn1⟩ : ∃ x, s1.row.length = x := ⟨_, rfl⟩
      rw [hn1] at hle hrl
      have hn6 := hrl.out.2
      go_wp2_with fail
      refine hle.mono ?_
      rintro e w2 ⟨rfl, rfl⟩
      go_wp2
      go_ret
      exact ⟨ret_int (by have := hrl.out.1; omega), QE.out⟩

set_option maxHeartbeats 1000000 in
/-- PUSH, by the document: the number of those that never were there. -/
theorem rpush18_any (ev lv : Value) (E l : List Int) (w : World) (he : Zs w ev E) (hz : Zs w lv l) (h9 : E.length + l.length ≤ 1000000) :
    Calls Try.prog 20 #[ev, lv] w fun e w' => ∃ a n c, e = .returned (.tuple #[.slice a n c, .int .i64 (((pushI E l).length : Int) - (E.length : Int))]) ∧ OwnZ w.heap.size w' (.slice a n c) n (pushI E l) ∧ Below w.heap.size w w' := by
  have HE : Hid (Zs w ev E) := he
  have HZ : Hid (Zs w lv l) := hz
  have H9 : Hid (E.length + l.length ≤ 1000000) := h9
  obtain ⟨m, hm⟩ : ∃ m, l.length = m := ⟨_, rfl⟩
  have HM : Hid (l.length = m) := hm
  obtain ⟨k, hk⟩ : ∃ k, E.length = k := ⟨_, rfl⟩
  have HK : Hid (E.length = k) := hk
  have he' := he
  obtain ⟨-, eo, ecap, rfl, hd1, hd2, -, -⟩ := he'
  have hz' := hz
  obtain ⟨-, ao, cap, rfl, hc1, hc2, -, hc⟩ := hz'
  rw [hk] at hd1 HE ⊢
  rw [hm] at hc1 HZ ⊢
  unfold maxLen at hc2 hd2
  have hk9 : 0 + k ≤ 1000000000 := by omega
  have O0 : Hid (OwnZ w.heap.size (w.alloc (.cells #[] 3)) (.slice (some ⟨w.heap.size, 0, none⟩) 0 0) 0 []) := OwnZ.new w
  have E0 : Hid (Sl 1 (w.alloc (.cells #[] 3)) (.slice eo k ecap) k (E.map (Value.int .i64))) := by
    have h1 := HE.out.below (below_alloc w (.cells #[] 3))
    unfold Zs at h1
    rw [hk] at h1
    exact h1
  have S0 : Hid (w.heap.size ≤ (w.alloc (.cells #[] 3)).heap.size) := (below_alloc _ _).size
  clear he hz hc h9 hm hk
  go_enter Try.func20, Try.ntmps20
  go_wp2_with (at_builtin; refine wpList_addZ _ rfl (.tmp 8) (.tmp 9) rfl w.heap.size (.slice (some ⟨w.heap.size, 0, none⟩) 0 0) 0 [] rfl O0.out _ k E rfl E0.out hk9 S0.out ?_; intro a4 k4 w4 ho4 hg4 hat4 hnc4 hcm4)
  rw [Nat.zero_add] at ho4
  have O4 : Hid (OwnZ w.heap.size w4 (.slice a4 k k4) k E) := ho4
  have B4 : Hid (Below w.heap.size w w4) := (below_alloc w (.cells #[] 3)).grown hg4 S0.out (fun q hq => (O0.out.lt q hq).1)
  clear ho4 hg4 hat4 hnc4 hcm4 O0 E0 S0
  have R0 : Hid (pushI E (l.take 0) = E) := rfl
  go_loopw [6, 7] (fun ov iv wr => ∃ (i n c : Nat) (a : Option Addr) (L : List Int), i ≤ m ∧ iv = .int .i64 i ∧ ov = .slice a n c ∧ Hid (pushI E (l.take i) = L) ∧ Hid (OwnZ w.heap.size wr (.slice a n c) n L) ∧ Hid (Below w.heap.size w wr)) (fun _ iv _ => m - (intOf iv).toNat)
  case atStart => exact ⟨0, k, k4, a4, E, by omega, rfl, rfl, R0, O4, B4⟩
  case round =>
    obtain ⟨i, n, c, a, L, hi, rfl, rfl, PL, OO, BB⟩ := hrel
    clear R0 O4 B4
    by_cases hlt : i < m
    · have hltI : (i : Int) < (m : Int) := by omega
      obtain ⟨x, hx⟩ : ∃ x, l[i]? = some x := ⟨_, List.getElem?_eq_getElem (by rw [HM.out]; exact hlt)⟩
      obtain ⟨b, off, rfl, ck⟩ := zs_at HZ.out BB.out hx
      have PN : Hid (pushI E (l.take (i + 1)) = if x ∈ L then L else L ++ [x]) := by unfold Hid; rw [← PL.out]; exact pushI_next hx
      have HN : Hid (n ≤ 1000000) := by
        have h1 := pushI_len E (l.take i)
        have h2 := H9.out
        have h3 : (l.take i).length = i := by rw [List.length_take, HM.out]; omega
        have h4 := OO.out.len
        rw [PL.out, h3, h4] at h1
        rw [HM.out] at h2
        unfold Hid
        omega
      have hn9 : n + 1 ≤ 1000000000 := by have := HN.out; omega
      clear hx PL
      have hev := rhas_any x (.slice a n c) L wr OO.out.zs
      by_cases hin : x ∈ L
      · have hd : decide (x ∈ L) = true := by simpa using hin
        rw [hd] at hev
        have P2 : Hid (pushI E (l.take (i + 1)) = L) := by unfold Hid; rw [PN.out, if_pos hin]
        clear PN hin hd
        go_wp2_with fail
        refine hev.mono ?_
        rintro e w2 ⟨rfl, rfl⟩
        clear hev
        go_wp2
        go_roundw
        case rel => exact ⟨i + 1, n, c, a, L, by omega, by go_num, rfl, P2, OO, BB⟩
        case measure => simp [intOf]; omega
      · have hd : decide (x ∈ L) = false := by simpa using hin
        rw [hd] at hev
        have P2 : Hid (pushI E (l.take (i + 1)) = L ++ [x]) := by unfold Hid; rw [PN.out, if_neg hin]
        clear PN hin hd
        have OA : Hid (OwnZ w.heap.size (wr.alloc (.cells #[.int .i64 x] 3)) (.slice a n c) n L) := OO.out.alloc _
        have BA : Hid (Below w.heap.size w (wr.alloc (.cells #[.int .i64 x] 3))) := BB.out.alloc BB.out.size _
        go_wp2_with fail
        refine hev.mono ?_
        rintro e w2 ⟨rfl, rfl⟩
        clear hev
        go_wp2_with (at_builtin; refine wpList_addZ _ rfl (.tmp 24) (.tmp 29) rfl w.heap.size (.slice a n c) n L rfl OA.out _ 1 [x] rfl (zs_one _ _ _) hn9 BA.out.size ?_; intro a5 k5 w5 ho5 hg5 hat5 hnc5 hcm5)
        have O5 : Hid (OwnZ w.heap.size w5 (.slice a5 (n + 1) k5) (n + 1) (L ++ [x])) := ho5
        have B5 : Hid (Below w.heap.size w w5) := BA.out.grown hg5 BA.out.size (fun q hq => (OA.out.lt q hq).1)
        clear ho5 hg5 hat5 hnc5 hcm5 OA BA OO BB
        go_roundw
        case rel => exact ⟨i + 1, n + 1, k5, a5, L ++ [x], by omega, by go_num, rfl, P2, O5, B5⟩
        case measure => simp [intOf]; omega
    · obtain rfl : m = i := by omega
      have HN : Hid (n ≤ 1000000 ∧ k ≤ 1000000) := by
        have h1 := pushI_len E (l.take m)
        have h2 := H9.out
        have h4 := OO.out.len
        have h3 : (l.take m).length = m := by rw [List.length_take, HM.out]; omega
        rw [PL.out, h3, h4] at h1
        rw [HM.out] at h2
        have h5 := HK.out
        unfold Hid
        omega
      have hn6 := HN.out.1
      have hk6 := HN.out.2
      have PE : Hid (pushI E l = L) := by
        have h1 := PL.out
        rw [List.take_of_length_le (by rw [HM.out]; exact Nat.le_refl _)] at h1
        exact h1
      clear PL
      go_wp2
      go_ret2
      rw [PE.out]
      refine ⟨a, n, c, ?_, OO.out, BB.out⟩
      have h4 := OO.out.len
      rw [h4]
      rfl

end Go.Proofs.Ytkckbeekehecnaa
