/-
  equation: Odd, as the program has it: a copy that is sorted, and what is kept stands in its own memory.
-/
import Derived.Test.YtkcijbejngnalaaQM
import Derived.Test.YtkcijbejngnalaaZOut
import Derived.Deep.Light
namespace Go.Proofs.Ytkcijbejngnalaa
open Go.RowKit
set_option linter.unusedVariables false

/-- Block q holds just these values, of whole numbers' type. -/
def RowQ (w : World) (q : Nat) (L : List Value) : Prop := w.heap[q]? = some (.cells L.toArray 3 (0, 0))
theorem RowQ.lt {w : World} {q : Nat} {L : List Value} (h : RowQ w q L) : q < w.heap.size := (Array.getElem?_eq_some_iff.1 h).1
theorem RowQ.kept {w w' : World} {q : Nat} {L : List Value} (h : RowQ w q L) (hk : w'.heap[q]? = w.heap[q]?) : RowQ w' q L := hk.trans h
theorem RowQ.below {w w' : World} {q : Nat} {L : List Value} (h : RowQ w q L) (hb : Below w.heap.size w w') : RowQ w' q L := h.kept (hb.block q h.lt)
theorem RowQ.cell {w : World} {q : Nat} {L : List Value} (h : RowQ w q L) {j : Nat} {u : Value} (hj : L[j]? = some u) : w.cell? ⟨q, j, none⟩ = some u := by
  have h' : w.heap[q]? = _ := h
  simp only [World.cell?, h', Option.isSome_none, Bool.false_eq_true, if_false, List.getElem?_toArray]
  exact hj
theorem RowQ.frozen {w : World} {q : Nat} {L : List Value} (h : RowQ w q L) (j : Nat) : w.frozen? ⟨q, j, none⟩ = false := by
  simp [World.frozen?, show w.heap[q]? = _ from h]
theorem OwnZ.row {B : Nat} {w : World} {q n c : Nat} {l : List Int} (h : OwnZ B w (.slice (some ⟨q, 0, none⟩) n c) n l) : ∃ L, RowQ w q L ∧ L.length = c ∧ L.take n = l.map (Value.int .i64) ∧ n ≤ c ∧ c ≤ maxLen ∧ B ≤ q := by
  rcases h.2 with ⟨h', -⟩ | ⟨g, cap, cur, hv, hg, hh, hnc, hcm, hcs, ht⟩
  · cases h'
  · injection hv with e1 _ e3
    injection e1 with e1
    injection e1 with e1
    subst e1; subst e3
    refine ⟨cur.toList, by simpa [RowQ] using hh, by simpa using hcs, by simpa using ht, hnc, hcm, hg⟩
theorem own_row {B : Nat} {w : World} {q m c : Nat} {L : List Value} {l : List Int} (h : RowQ w q L) (hl : l.length = m) (hL : L.length = c) (ht : L.take m = l.map (Value.int .i64)) (hm : m ≤ c) (hc : c ≤ maxLen) (hB : B ≤ q) : OwnZ B w (.slice (some ⟨q, 0, none⟩) m c) m l := by
  refine ⟨by simpa using hl, .inr ⟨q, c, L.toArray, rfl, hB, h, hm, hc, by simpa using hL, by simpa using ht⟩⟩

/-- 'append' of one number where there is room: it stands behind the others, in the same memory. -/
theorem wpList_room (w : World) {ops : Array Oper} {rest : List Oper} {o : Oper} {a : Act} {Q : Exit → Act → World → Prop} (hgd : o.guard = none) (s x : Operand)
    (ho : o.op = .call { callee := .builtin .append, args := #[s, x], argTypes := #[39, 39] })
    (q n c : Nat) (L : List Value) (hs : a.eval s = .slice (some ⟨q, 0, none⟩) n c) (hL : RowQ w q L) (hc : L.length = c) (hn : n + 1 ≤ c)
    (p : Nat) (u : Int) (hx : a.eval x = .slice (some ⟨p, 0, none⟩) 1 1) (hp : w.cell? ⟨p, 0, none⟩ = some (.int .i64 u))
    (h : ∀ w', RowQ w' q (L.set n (.int .i64 u)) → w.grownBy w' (some q) → w'.heap.size = w.heap.size → wpList Try.prog ops Q rest (a.put o.dst (.slice (some ⟨q, 0, none⟩) (n + 1) c)) w') : wpList Try.prog ops Q (o :: rest) a w := by
  obtain ⟨i, hi, hz, h1, h8⟩ := infoZ_parts
  have hr := run_append_room (P := Try.prog) w 39 o.type 3 i Try.underlying39 hi q n c L.toArray hL ⟨p, 0, none⟩ 1 1 [.int .i64 u] (by rw [h1]; rfl) (by
    intro j v hj
    have : j = 0 := by have := (List.getElem?_eq_some_iff.1 hj).1; simp at this; omega
    subst this
    simp at hj
    subst hj
    exact hp) (by simp [Value.oneCell']) hn (by rw [h1]; simp; omega)
  rw [h1] at hr
  have e : (L.toArray.toList.take (n * 1) ++ [Value.int .i64 u] ++ L.toArray.toList.drop (n * 1 + [Value.int .i64 u].length)) = L.set n (.int .i64 u) := by
    rw [List.set_eq_take_append_cons_drop, if_pos (by omega)]
    simp
  rw [e] at hr
  refine wpList_plain hgd fun K hK => ?_
  unfold Oper.wp execOp
  simp only [ho, resolve, invoke, builtin, Sem.run_bind, Sem.run_pure, Result.andThen_ok, List.map_toArray, List.map_cons, List.map_nil, hs, hx, hr]
  refine hK _ _ (h _ (setRow_heap w q _ _ _ _ hL) ⟨rfl, rfl, rfl, by simp, fun k _ hk => setRow_other w q k _ (fun e => hk (by simp [e]))⟩ (by simp))

/-- What Odd keeps: what was kept of the first i numbers stands ahead, all others where they were. -/
structure OdI (s : List Int) (c m i : Nat) (L : List Value) : Prop where
  len : (oddS (s.take i)).length = m
  cap : L.length = c
  own : L.take m = (oddS (s.take i)).map (Value.int .i64)
  rest : ∀ j, i ≤ j → ∀ z, s[j]? = some z → L[j]? = some (.int .i64 z)

theorem oddS_next {s : List Int} {i : Nat} {z : Int} (h : s[i]? = some z) : oddS (s.take (i + 1)) = stepO (oddS (s.take i)) z := by
  obtain ⟨hi, rfl⟩ := List.getElem?_eq_some_iff.1 h
  unfold oddS
  rw [List.take_succ_eq_append_getElem hi, List.foldl_append]
  rfl
theorem OdI.start {s : List Int} {c : Nat} {L : List Value} (hc : L.length = c) (hL : L.take s.length = s.map (Value.int .i64)) : OdI s c 0 0 L := by
  refine ⟨rfl, hc, rfl, fun j _ z hz => ?_⟩
  have hj := (List.getElem?_eq_some_iff.1 hz).1
  have h1 : (L.take s.length)[j]? = some (.int .i64 z) := by rw [hL, List.getElem?_map, hz]; rfl
  rw [List.getElem?_take, if_pos hj] at h1
  exact h1
theorem OdI.le {s : List Int} {c m i : Nat} {L : List Value} (h : OdI s c m i L) : m ≤ i := by
  have := oddS_length (s.take i)
  rw [h.len, List.length_take] at this
  omega
theorem OdI.at_last {s : List Int} {c m i : Nat} {L : List Value} (h : OdI s c (m + 1) i L) : ∃ z, L[m]? = some (.int .i64 z) ∧ (oddS (s.take i)).getLast? = some z := by
  have hl := h.len
  obtain ⟨z, hz⟩ : ∃ z, (oddS (s.take i))[m]? = some z := ⟨_, List.getElem?_eq_getElem (by omega)⟩
  refine ⟨z, ?_, ?_⟩
  · have h1 : (L.take (m + 1))[m]? = some (.int .i64 z) := by rw [h.own, List.getElem?_map, hz]; rfl
    rw [List.getElem?_take, if_pos (by omega)] at h1
    exact h1
  · rw [List.getLast?_eq_getElem?, hl]
    exact hz
theorem OdI.none {s : List Int} {c i : Nat} {L : List Value} (h : OdI s c 0 i L) : oddS (s.take i) = [] := List.eq_nil_of_length_eq_zero h.len
theorem OdI.pop {s : List Int} {c m i : Nat} {L : List Value} {z : Int} (h : OdI s c (m + 1) i L) (hz : s[i]? = some z) (hl : (oddS (s.take i)).getLast? = some z) : OdI s c m (i + 1) L := by
  have e : oddS (s.take (i + 1)) = (oddS (s.take i)).dropLast := by rw [oddS_next hz, stepO_yes hl]
  have hlen := h.len
  refine ⟨by rw [e, List.length_dropLast, hlen]; rfl, h.cap, ?_, fun j hj y hy => h.rest j (by omega) y hy⟩
  rw [e, List.dropLast_eq_take, hlen, List.map_take, ← h.own, List.take_take]
  congr 1
  omega
theorem OdI.push {s : List Int} {c m i : Nat} {L : List Value} {z : Int} (h : OdI s c m i L) (hz : s[i]? = some z) (hl : (oddS (s.take i)).getLast? ≠ some z) (hc : i < c) : OdI s c (m + 1) (i + 1) (L.set m (.int .i64 z)) := by
  have e : oddS (s.take (i + 1)) = oddS (s.take i) ++ [z] := by rw [oddS_next hz, stepO_no hl]
  have hlen := h.len
  have hmi := h.le
  have hcap := h.cap
  refine ⟨by rw [e, List.length_append, hlen]; rfl, by simpa using h.cap, ?_, fun j hj y hy => ?_⟩
  · rw [e, List.map_append, ← h.own, List.take_succ_eq_append_getElem (by simp; omega)]
    congr 1
    · rw [List.take_set, List.set_eq_of_length_le (by simp; omega)]
    · simp
  · rw [List.getElem?_set_ne (by omega)]
    exact h.rest j (by omega) y hy

set_option maxRecDepth 100000 in
set_option maxHeartbeats 1000000 in
/-- ODD. -/
theorem qodd_any (v : Value) (l : List Int) (w : World) (h : Zs w v l) (hl : l.length ≤ 1000000000) :
    Calls Try.prog 24 #[v] w fun e w' => ∃ a c, e = .returned (.slice a (oddD l).length c) ∧ OwnZ w.heap.size w' (.slice a (oddD l).length c) (oddD l).length (oddD l) ∧ Below w.heap.size w w' := by
  obtain ⟨n, hn⟩ : ∃ n, l.length = n := ⟨_, rfl⟩
  have C1 : Hid (Calls Try.prog 56 #[v] w fun e w' => ∃ a c, e = .returned (.slice a n c) ∧ OwnZ w.heap.size w' (.slice a n c) n l ∧ Below w.heap.size w w') := clone_any v l n w h hn (by omega)
  obtain ⟨m, hm⟩ : ∃ m, (oddD l).length = m := ⟨_, rfl⟩
  rw [hm]
  have HM : Hid ((oddD l).length = m) := hm
  obtain ⟨-, ao, cap, rfl, h2, h3, -, -⟩ := h
  rw [hn] at h2 hl C1 ⊢
  have HN : Hid (l.length = n) := hn
  clear hn hm
  go_enter Try.func24, Try.ntmps24
  go_wp2_with fail
  refine C1.out.mono ?_
  rintro e w1 ⟨a, c, rfl, ho, hb⟩
  have O1 : Hid (OwnZ w.heap.size w1 (.slice a n c) n l) := ho
  have B1 : Hid (Below w.heap.size w w1) := hb
  clear ho hb C1
  go_wp2_with fail
  refine (sort_own w.heap.size a n c l w1 O1.out (by omega)).mono ?_
  rintro e w2 ⟨rfl, ho, hg⟩
  have O2 : Hid (OwnZ w.heap.size w2 (.slice a n c) n (sortI l)) := ho
  have B2 : Hid (Below w.heap.size w w2) := B1.out.grown hg B1.out.size (fun k hk => (O1.out.lt k hk).1)
  have SN : Hid ((sortI l).length = n) := by unfold Hid; rw [sortI_length]; exact HN.out
  clear ho hg O1 B1
  by_cases hn0 : n = 0
  · subst hn0
    have e0 : l = [] := List.eq_nil_of_length_eq_zero HN.out
    have e1 : oddD l = [] := by rw [e0]; exact (oddD_of []).unique ⟨by simp, fun x => by simp⟩
    have e2 : m = 0 := by rw [← HM.out, e1]; rfl
    subst e2
    have E1 : Hid (oddD l = []) := e1
    have O3 : Hid (OwnZ w.heap.size w2 (.slice a 0 c) 0 (oddD l)) := by
      rw [E1.out]
      have h1 := O2.out
      have : sortI l = [] := List.eq_nil_of_length_eq_zero SN.out
      rw [this] at h1
      exact h1
    clear e0 e1
    obtain ⟨ao', cap', e, h5, h6, h7⟩ := owned_slice O2.out
    injection e with e1 e2 e3
    subst e1; subst e3
    have sl := fun W => slice_to_g (P := Try.prog) 39 (by kernel_rfl) 1 (by intro W; kernel_rfl) W a 0 c 0 (Nat.zero_le _)
    clear O2 HM HN SN h5 h6 h7
    go_wp2
    go_loopw [4, 16] (fun u i wr => u = .slice a 0 c ∧ i = .int .i64 0 ∧ wr = w2) (fun _ _ _ => 0)
    case atStart => exact ⟨rfl, rfl, rfl⟩
    case round =>
      obtain ⟨rfl, rfl, rfl⟩ := hrel
      go_wp2
      go_ret
      exact ⟨_, _, rfl, O3.out, B2.out⟩
  · obtain ⟨q, c', e, hB, h5, h6⟩ := owned_shape O2.out (by omega)
    injection e with e1 e2 e3
    subst e1; subst e3
    obtain ⟨L, hL, hLc, hLt, -, -, -⟩ := O2.out.row
    unfold maxLen at h6
    obtain ⟨s, hs⟩ : ∃ s, sortI l = s := ⟨_, rfl⟩
    have HS : Hid (sortI l = s) := hs
    rw [hs] at hLt SN
    have LI : Hid (OdI s c 0 0 L) := OdI.start hLc (by rw [SN.out]; exact hLt)
    have LR : Hid (RowQ w2 q L) := hL
    have HQ : Hid (w.heap.size ≤ q) := hB
    have hq2 : q < w2.heap.size := hL.lt
    have sl := fun W => slice_to_g (P := Try.prog) 39 (by kernel_rfl) 1 (by intro W; kernel_rfl) W (some ⟨q, 0, none⟩) n c 0 (Nat.zero_le _)
    clear O2 hL hLc hLt hs hB
    go_wp2
    go_loopw [4, 16] (fun u i wr => ∃ (k m : Nat) (L : List Value), k ≤ n ∧ i = .int .i64 k ∧ u = .slice (some ⟨q, 0, none⟩) m c ∧ Hid (OdI s c m k L) ∧ Hid (RowQ wr q L) ∧ Hid (Below w.heap.size w wr)) (fun _ i _ => n - (intOf i).toNat)
    case atStart => exact ⟨0, 0, L, by omega, rfl, rfl, LI, LR, B2⟩
    case round =>
      clear LI LR B2 sl hq2
      obtain ⟨k, m', L', hk, rfl, rfl, LI, LR, BB⟩ := hrel
      by_cases hlt : k < n
      · obtain ⟨z, hz⟩ : ∃ z, s[k]? = some z := ⟨_, List.getElem?_eq_getElem (by rw [SN.out]; exact hlt)⟩
        have HZ : Hid (s[k]? = some z) := hz
        have ck := LR.out.cell (LI.out.rest k (Nat.le_refl _) z hz)
        have hmk : m' ≤ k := LI.out.le
        have hqs : q < wr.heap.size := LR.out.lt
        clear hz
        have push : ∀ w4 : World, RowQ w4 q (L'.set m' (.int .i64 z)) → (wr.alloc (.cells #[.int .i64 z] 3)).grownBy w4 (some q) → Below w.heap.size w w4 := fun w4 _ hg => (BB.out.alloc BB.out.size _).grown hg (by have := BB.out.size; simp; omega) (fun k hk => by injection hk with hk; rw [← hk]; exact HQ.out)
        have PU : Hid (∀ w4 : World, RowQ w4 q (L'.set m' (.int .i64 z)) → (wr.alloc (.cells #[.int .i64 z] 3)).grownBy w4 (some q) → Below w.heap.size w w4) := push
        clear push
        have LRa : Hid (RowQ (wr.alloc (.cells #[.int .i64 z] 3)) q L') := LR.out.below (below_alloc _ _)
        by_cases hm0 : m' = 0
        · subst hm0
          go_wp2_with (at_builtin; refine wpList_room _ rfl (.tmp 36) (.tmp 38) rfl q 0 c L' rfl LRa.out LI.out.cap (by omega) _ z rfl (by simp) ?_; intro w4 hr4 hg4 hs4)
          go_roundw
          case rel => exact ⟨k + 1, 1, _, by omega, by go_num, rfl, LI.out.push HZ.out (by rw [LI.out.none]; simp) (by omega), hr4, PU.out w4 hr4 hg4⟩
          case measure => simp [intOf]; omega
        · obtain ⟨m2, rfl⟩ : ∃ m2, m' = m2 + 1 := ⟨m' - 1, by omega⟩
          obtain ⟨y, hy, hy2⟩ := LI.out.at_last
          have cy := LR.out.cell hy
          have HY : Hid ((oddS (s.take k)).getLast? = some y) := hy2
          clear hy hy2 hm0
          by_cases hyz : y = z
          · subst hyz
            have hmc : m2 ≤ c := by omega
            have sl2 := fun W => slice_to_g (P := Try.prog) 39 (by kernel_rfl) 1 (by intro W; kernel_rfl) W (some ⟨q, 0, none⟩) (m2 + 1) c m2 hmc
            go_wp2
            go_roundw
            case rel => exact ⟨k + 1, m2, _, by omega, by go_num, rfl, LI.out.pop HZ.out HY.out, LR, BB⟩
            case measure => simp [intOf]; omega
          · have hmc : m2 + 2 ≤ c := by omega
            go_wp2_with (at_builtin; refine wpList_room _ rfl (.tmp 36) (.tmp 38) rfl q (m2 + 1) c L' rfl LRa.out LI.out.cap (by omega) _ z rfl (by simp) ?_; intro w4 hr4 hg4 hs4)
            go_roundw
            case rel => exact ⟨k + 1, m2 + 1 + 1, _, by omega, by go_num, rfl, LI.out.push HZ.out (by rw [HY.out]; simpa using hyz) (by omega), hr4, PU.out w4 hr4 hg4⟩
            case measure => simp [intOf]; omega
      · obtain rfl : n = k := by omega
        have e1 : oddS (s.take n) = oddD l := by
          rw [List.take_of_length_le (by rw [SN.out]; exact Nat.le_refl _), ← HS.out]
          rfl
        have hlen := LI.out.len
        rw [e1, HM.out] at hlen
        subst hlen
        have O3 : Hid (OwnZ w.heap.size wr (.slice (some ⟨q, 0, none⟩) m c) m (oddD l)) := own_row LR.out HM.out LI.out.cap (by rw [← e1]; exact LI.out.own) (by have := LI.out.le; omega) (by unfold maxLen; omega) HQ.out
        clear e1
        go_wp2
        go_ret
        exact ⟨_, _, rfl, O3.out, BB.out⟩

end Go.Proofs.Ytkcijbejngnalaa
