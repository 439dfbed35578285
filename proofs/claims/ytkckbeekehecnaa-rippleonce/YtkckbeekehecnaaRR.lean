/-
  ripple: what a queue does.
-/
import Derived.Test.YtkckbeekehecnaaRQ
import Derived.WalkSpells
namespace Go.Proofs.Ytkckbeekehecnaa
open Go.RowKit Go.Maps
set_option linter.unusedVariables false
set_option maxRecDepth 100000

/-- A queue: its map, its row, all that ever were in it, those that are. -/
structure QuS where
  mv : Value
  rv : Value
  ever : List Int
  row : List Int
def QuS.own (s : QuS) (p : Nat) : Nat → Prop := fun z => z = p ∨ s.mv = .map (some z) ∨ s.rv.ownBlock = some z
/-- What the map of all that ever were says. -/
def evM (l : List Int) : Int → Option Value := fun x => if x ∈ l then some (.bool true) else none
theorem evM_snoc (l : List Int) (x : Int) : evM (l ++ [x]) = setO (evM l) x (.bool true) := by
  funext a
  by_cases h : a = x
  · subst h
    rw [setO_same]
    simp [evM]
  · rw [setO_other h]
    simp [evM, h]
theorem evM_get (l : List Int) (x : Int) : (evM l x).getD (.bool false) = .bool (@decide (x ∈ l) (List.instDecidableMemOfLawfulBEq x l)) := by
  by_cases h : x ∈ l <;> simp [evM, h]

structure Qu (W : World) (p : Nat) (s : QuS) : Prop where
  box : W.heap[p]? = some (.cells #[s.mv, s.rv] 51 (0, 0))
  map : (s.mv = .map none ∧ s.ever = []) ∨ ∃ mb, s.mv = .map (some mb) ∧ p ≤ mb ∧ MpO W mb s.ever.length (evM s.ever)
  row : TailZ p W s.rv s.row.length s.row

theorem Qu.lt {W : World} {p : Nat} {s : QuS} (h : Qu W p s) : ∀ z, s.own p z → p ≤ z ∧ z < W.heap.size := by
  rintro z (rfl | hz | hz)
  · exact ⟨Nat.le_refl _, (Array.getElem?_eq_some_iff.1 h.box).1⟩
  · rcases h.map with ⟨h1, -⟩ | ⟨mb, h1, h2, h3⟩
    · rw [h1] at hz; cases hz
    · rw [h1] at hz
      injection hz with hz
      injection hz with hz
      subst hz
      exact ⟨h2, h3.lt⟩
  · exact h.row.lt z hz
theorem Qu.plt {W : World} {p : Nat} {s : QuS} (h : Qu W p s) : p < W.heap.size := (h.lt p (.inl rfl)).2
theorem Qu.kept {W W' : World} {p : Nat} {s : QuS} (h : Qu W p s) (hk : ∀ z, s.own p z → W'.heap[z]? = W.heap[z]?) : Qu W' p s where
  box := (hk p (.inl rfl)).trans h.box
  map := by
    rcases h.map with h1 | ⟨mb, h1, h2, h3⟩
    · exact .inl h1
    · exact .inr ⟨mb, h1, h2, h3.kept (hk mb (.inr (.inl h1)))⟩
  row := h.row.kept fun q hq => hk q (.inr (.inr hq))
theorem Qu.below {W W' : World} {p : Nat} {s : QuS} (h : Qu W p s) (hb : Below W.heap.size W W') : Qu W' p s := h.kept fun z hz => hb.block z (h.lt z hz).2
theorem Qu.new (W : World) : Qu (W.alloc (.cells #[.map none, .slice none 0 0] 51)) W.heap.size ⟨.map none, .slice none 0 0, [], []⟩ where
  box := heap_alloc_new W _
  map := .inl ⟨rfl, rfl⟩
  row := TailZ.nil _ _
theorem Qu.cells {W : World} {p : Nat} {s : QuS} (h : Qu W p s) : W.cell? ⟨p, 0, none⟩ = some s.mv ∧ W.cell? ⟨p, 1, none⟩ = some s.rv := by simp [World.cell?, h.box]
theorem Qu.frozen {W : World} {p : Nat} {s : QuS} (h : Qu W p s) (j : Nat) : W.frozen? ⟨p, j, none⟩ = false := by simp [World.frozen?, h.box]
theorem Qu.rne {W : World} {p : Nat} {s : QuS} (h : Qu W p s) : s.rv.ownBlock ≠ some p := fun e => by
  obtain ⟨cs, hc⟩ := h.row.kind e
  exact heap_ne hc h.box (by decide) rfl
theorem Qu.mne {W : World} {p mb : Nat} {s : QuS} (h : Qu W p s) (hm : s.mv = .map (some mb)) : s.rv.ownBlock ≠ some mb ∧ mb ≠ p := by
  rcases h.map with ⟨h1, -⟩ | ⟨mb', h1, h2, h3⟩
  · rw [h1] at hm; cases hm
  · rw [h1] at hm
    injection hm with hm
    injection hm with hm
    subst hm
    obtain ⟨es, c, hm⟩ := h3.isMap
    refine ⟨fun e => ?_, fun e => heap_neM h.box hm e.symm⟩
    obtain ⟨cs, hc⟩ := h.row.kind e
    exact heap_neM hc hm rfl
/-- Behind what changed the row alone, its place is laid into the box. -/
theorem Qu.setRow {W W' : World} {p : Nat} {s : QuS} (h : Qu W p s) (hk : ∀ k, k < W.heap.size → s.rv.ownBlock ≠ some k → W'.heap[k]? = W.heap[k]?) {v : Value} {l : List Int} (ho : TailZ p W' v l.length l) (hv : v.ownBlock ≠ some p) : Qu (W'.setCell ⟨p, 1, none⟩ v) p ⟨s.mv, v, s.ever, l⟩ where
  box := by
    have := box_set ((hk p h.plt h.rne).trans h.box) (j := 1) v
    simpa using this
  map := by
    rcases h.map with h1 | ⟨mb, h1, h2, h3⟩
    · exact .inl h1
    · refine .inr ⟨mb, h1, h2, h3.kept ?_⟩
      have hn := h.mne h1
      exact (heap_set_other _ _ _ _ hn.2).trans (hk mb h3.lt hn.1)
  row := ho.kept fun q hq => heap_set_other _ _ _ _ (fun e => hv (by rw [hq, e]))
theorem Qu.newMap {W : World} {p : Nat} {s : QuS} (h : Qu W p s) (h0 : s.ever = []) : Qu ((W.alloc (.map #[] 0)).setCell ⟨p, 0, none⟩ (.map (some W.heap.size))) p ⟨.map (some W.heap.size), s.rv, s.ever, s.row⟩ where
  box := by
    have := box_set ((heap_alloc_old W (.map #[] 0) h.plt).trans h.box) (j := 0) (.map (some W.heap.size))
    simpa using this
  map := by
    refine .inr ⟨_, rfl, Nat.le_of_lt h.plt, ?_⟩
    have h1 := (MpO.start W).kept (w' := (W.alloc (.map #[] 0)).setCell ⟨p, 0, none⟩ (.map (some W.heap.size))) (heap_set_other _ _ _ _ (by have := h.plt; omega))
    show MpO _ _ s.ever.length (evM s.ever)
    rw [h0]
    exact h1
  row := h.row.kept fun q hq => (heap_set_other _ _ _ _ (fun e => h.rne (by rw [hq, e]))).trans (heap_alloc_old W _ (h.row.lt q hq).2)
theorem Qu.put {W W' : World} {p mb : Nat} {s : QuS} (h : Qu W p s) (hm : s.mv = .map (some mb)) {x : Int} (hg : W.grownBy W' (some mb)) (ho : MpO W' mb (s.ever.length + 1) (setO (evM s.ever) x (.bool true))) : Qu W' p ⟨s.mv, s.rv, s.ever ++ [x], s.row⟩ where
  box := (hg.block p h.plt (fun e => (h.mne hm).2 (Option.some.inj e).symm)).trans h.box
  map := by
    rcases h.map with ⟨h1, -⟩ | ⟨mb', h1, h2, h3⟩
    · rw [h1] at hm; cases hm
    · rw [h1] at hm
      injection hm with hm
      injection hm with hm
      subst hm
      refine .inr ⟨_, h1, h2, ?_⟩
      show MpO W' _ (s.ever ++ [x]).length (evM (s.ever ++ [x]))
      rw [evM_snoc, List.length_append]
      exact ho
  row := h.row.kept fun q hq => hg.block q (h.row.lt q hq).2 (fun e => (h.mne hm).1 (by rw [hq, ← e]))

theorem Try.zeroBool (w : World) : (zeroValue 4).run Try.prog w = .ok (.bool false) w := by kernel_rfl
theorem look_none {t : TypeId} {w : World} {i : Int} (ht : Try.prog.underlying t = some (.map 3 4)) (hi : (Lit.int .i64 i).wf = true) : (Instr.lookup t (.map none) (.int .i64 i) false).run Try.prog w = .ok (.bool false) w := by
  have h1 := Try.keyedI.check w true (key_int hi)
  have h2 : (Instr.findKey 3 (.int .i64 i) []).run Try.prog w = .ok none w := by
    rcases Try.keyedI.find w (key_int hi) [] (by intro e he; cases he) with ⟨h2, -⟩ | ⟨j, e, -, h3, -⟩
    · exact h2
    · simp at h3
  simp [Instr.lookup, run_underlying ht, h1, h2, Result.andThen]

/-- EVER. -/
theorem quever_any (p : Nat) (s : QuS) (x : Int) (W : World) (h : Qu W p s) (hx : (Lit.int .i64 x).wf = true) :
    Calls Try.prog 24 #[.pointer (some ⟨p, 0, none⟩), .int .i64 x] W fun e w' => e = .returned (.bool (@decide (x ∈ s.ever) (List.instDecidableMemOfLawfulBEq x s.ever))) ∧ w' = W := by
  obtain ⟨c0, c1⟩ := h.cells
  have HL : (Instr.lookup 49 s.mv (.int .i64 x) false).run Try.prog W = .ok (.bool (@decide (x ∈ s.ever) (List.instDecidableMemOfLawfulBEq x s.ever))) W := by
    rcases h.map with ⟨h1, h2⟩ | ⟨mb, h1, h2, h3⟩
    · rw [h1, h2, look_none Try.underlying49 hx]
      simp
    · rw [h1, h3.look Try.underlying49 (Try.zeroBool _) hx, evM_get]
  obtain ⟨mv, rv, ever, row⟩ := s
  simp only at HL c0 c1 ⊢
  generalize @decide (x ∈ ever) (List.instDecidableMemOfLawfulBEq x ever) = b at *
  clear h hx
  go_enter Try.func24, Try.ntmps24
  go_wp2
  go_ret
  exact ⟨rfl, rfl⟩

/-- LEN. -/
theorem qulen_any (p : Nat) (s : QuS) (W : World) (h : Qu W p s) :
    Calls Try.prog 23 #[.pointer (some ⟨p, 0, none⟩)] W fun e w' => e = .returned (.int .i64 (s.row.length : Int)) ∧ w' = W := by
  obtain ⟨c0, c1⟩ := h.cells
  obtain ⟨mv, rv, ever, row⟩ := s
  have hr := h.row
  obtain ⟨n, hn⟩ : ∃ n, row.length = n := ⟨_, rfl⟩
  simp only [hn] at hr c0 c1 ⊢
  obtain ⟨a, c, rfl⟩ : ∃ a c, rv = .slice a n c := by
    rcases hr.2 with ⟨h1, h2⟩ | ⟨g, off, cap, cur, h1, _⟩
    · exact ⟨none, 0, by rw [h1, h2]⟩
    · exact ⟨_, _, h1⟩
  clear h hr hn
  go_enter Try.func23, Try.ntmps23
  go_wp2
  go_ret
  exact ⟨rfl, rfl⟩

/-- POP. -/
theorem qupop_any (p : Nat) (s : QuS) (W : World) (h : Qu W p s) (h9 : s.row.length ≤ 1000000000) :
    Calls Try.prog 22 #[.pointer (some ⟨p, 0, none⟩)] W fun e w' => (s.row = [] → e = .returned (.tuple #[.int .i64 0, .bool false]) ∧ w' = W) ∧ ∀ x r, s.row = x :: r → e = .returned (.tuple #[.int .i64 x, .bool true]) ∧ ∃ v, Qu w' p ⟨s.mv, v, s.ever, r⟩ ∧ v.ownBlock = s.rv.ownBlock ∧ KeepsBut (s.own p) W w' := by
  have HQ : Hid (Qu W p s) := h
  obtain ⟨c0, c1⟩ := h.cells
  have hl := qulen_any p s W h
  have hfz := h.frozen 1
  have hr := h.row
  obtain ⟨mv, rv, ever, row⟩ := s
  simp only at c0 c1 hl h9 hr ⊢
  cases row with
  | nil =>
    clear h hr HQ
    go_enter Try.func22, Try.ntmps22
    go_wp2_with fail
    refine hl.mono ?_
    rintro e w1 ⟨rfl, rfl⟩
    go_wp2
    go_ret2
    exact ⟨fun _ => ⟨rfl, rfl⟩, fun x r h => by cases h⟩
  | cons x r =>
    obtain ⟨g, off, cap, rfl, hc⟩ := hr.cell (j := 0) (z := x) rfl
    have HC : Hid ((r.length + 1) ≤ cap ∧ (cap ≤ maxLen)) := by
      obtain ⟨_, ⟨h0, -⟩ | ⟨g', off', cap', cur, hv, hb, hg, h4, h5, h6, h7⟩⟩ := hr
      · cases h0
      · injection hv with _ _ e3
        subst e3
        exact ⟨by simpa using h4, h6⟩
    have HT : Hid (TailZ p W (.slice (some ⟨g, off + 1, none⟩) r.length (cap - 1)) r.length r ∧ (cap = 1 → TailZ p W (.slice (some ⟨g, off, none⟩) r.length 0) r.length r)) := TailZ.tail (by simpa using hr)
    rw [Nat.add_zero] at hc
    simp only [List.length_cons] at hl c1 h9 HQ
    obtain ⟨n, hn⟩ : ∃ n, r.length = n := ⟨_, rfl⟩
    simp only [hn] at hl c1 HC h9 HQ
    have HN : Hid (r.length = n) := hn
    obtain ⟨hc1, hc2⟩ := HC.out
    unfold maxLen at hc2
    have hgp : g ≠ p := fun e => hr.kind (q := g) rfl |>.elim fun cs hcs => by
      have := HQ.out.box
      rw [e, this] at hcs
      injection hcs with hcs
      injection hcs with _ h2 _
      exact absurd h2 (by decide)
    clear h hr hn
    go_enter Try.func22, Try.ntmps22
    go_wp2_with fail
    refine hl.mono ?_
    rintro e w1 ⟨rfl, rfl⟩
    go_wp2
    · go_ret2
      subst h
      refine ⟨rfl, _, HQ.out.setRow (fun k _ _ => rfl) (by rw [HN.out]; have := HT.out.2 rfl; rw [HN.out] at this; exact this) (fun e => hgp (Option.some.inj e)), rfl, KeepsBut.setCell _ _ _ _ (.inl rfl)⟩
    · go_ret2
      refine ⟨rfl, _, HQ.out.setRow (fun k _ _ => rfl) (by rw [HN.out]; have := HT.out.1; rw [HN.out] at this; exact this) (fun e => hgp (Option.some.inj e)), rfl, KeepsBut.setCell _ _ _ _ (.inl rfl)⟩

/-- What an 'add' finds: a map. -/
theorem quput_any (p mb : Nat) (s : QuS) (x : Int) (W : World) (h : Qu W p s) (hm : s.mv = .map (some mb)) (hx : (Lit.int .i64 x).wf = true) (h9 : s.ever.length ≤ 1000000) : ∃ w', (Instr.mapUpdate 49 (.map (some mb)) (.int .i64 x) (.bool true)).run Try.prog W = .ok () w' ∧ Qu w' p ⟨s.mv, s.rv, s.ever ++ [x], s.row⟩ ∧ W.grownBy w' (some mb) := by
  rcases h.map with ⟨h1, -⟩ | ⟨mb', h1, h2, h3⟩
  · rw [h1] at hm; cases hm
  · rw [h1] at hm
    injection hm with hm
    injection hm with hm
    subst hm
    obtain ⟨w', hr, ho, hg⟩ := h3.update Try.underlying49 (by omega) hx (.bool true)
    exact ⟨w', hr, h.put h1 hg ho, hg⟩

theorem KeepsBut.andThen {S T : Nat → Prop} {a b c : World} (h : KeepsBut S a b) (k : KeepsBut T b c) (hT : ∀ z, T z → S z ∨ a.heap.size ≤ z) : KeepsBut S a c :=
  ⟨k.os.trans h.os, k.tape.trans h.tape, k.output.trans h.output, Nat.le_trans h.size k.size, fun j hj hs => (k.block j (Nat.lt_of_lt_of_le hj h.size) (fun ht => by rcases hT j ht with h1 | h1; exact hs h1; omega)).trans (h.block j hj hs)⟩

/-- ADD: a number that never was there. -/
theorem quadd_any (p : Nat) (s : QuS) (x : Int) (W : World) (h : Qu W p s) (hx : (Lit.int .i64 x).wf = true) (h9 : s.ever.length ≤ 1000000) (h8 : s.row.length ≤ 1000000) :
    Calls Try.prog 44 #[.pointer (some ⟨p, 0, none⟩), .int .i64 x] W fun e w' => e = .returned (.tuple #[]) ∧ ∃ s', Qu w' p s' ∧ s'.ever = s.ever ++ [x] ∧ s'.row = s.row ++ [x] ∧ KeepsBut (s.own p) W w' ∧ ∀ z, s'.own p z → s.own p z ∨ W.heap.size ≤ z := by
  have TAIL : Hid (∀ (s2 : QuS) (w2 : World), Qu w2 p s2 → s2.rv = s.rv → s2.ever = s.ever ++ [x] → s2.row = s.row → KeepsBut (s.own p) W w2 → (∀ z, s2.own p z → s.own p z ∨ W.heap.size ≤ z) → ∀ (v' : Value) (w3 : World), TailZ p w3 v' (s.row.length + 1) (s.row ++ [x]) → (w2.alloc (.cells #[.int .i64 x] 3)).grownBy w3 s.rv.ownBlock → (v'.ownBlock = s.rv.ownBlock ∨ v'.ownBlock = some (w2.alloc (.cells #[.int .i64 x] 3)).heap.size) → w3.cell? ⟨p, 1, none⟩ = some s.rv ∧ w3.frozen? ⟨p, 1, none⟩ = false ∧ ∃ s', Qu (w3.setCell ⟨p, 1, none⟩ v') p s' ∧ s'.ever = s.ever ++ [x] ∧ s'.row = s.row ++ [x] ∧ KeepsBut (s.own p) W (w3.setCell ⟨p, 1, none⟩ v') ∧ ∀ z, s'.own p z → s.own p z ∨ W.heap.size ≤ z) := by
    intro s2 w2 q2 hrv hev hro hk ho v' w3 ht hg hv
    have q2' : Qu (w2.alloc (.cells #[.int .i64 x] 3)) p s2 := q2.below (below_alloc _ _)
    have hk' : KeepsBut (s.own p) W (w2.alloc (.cells #[.int .i64 x] 3)) := hk.trans (KeepsBut.ofBelow (below_alloc _ _))
    generalize w2.alloc (.cells #[.int .i64 x] 3) = wa at *
    have hrp : s.rv.ownBlock ≠ some p := by rw [← hrv]; exact q2'.rne
    have hvp : v'.ownBlock ≠ some p := by
      rcases hv with hv | hv
      · rw [hv]; exact hrp
      · rw [hv]; intro e; have := q2'.plt; have := Option.some.inj e; omega
    have hb : w3.heap[p]? = wa.heap[p]? := hg.block p q2'.plt (fun e => hrp e.symm)
    have hkg : KeepsBut (s.own p) W w3 := hk'.andThen (KeepsBut.ofGrownO (S := fun z => s.rv.ownBlock = some z) hg (fun q hq => .inl hq)) (fun z hz => .inl (.inr (.inr hz)))
    refine ⟨(World.cell?_of_block hb).trans (q2'.cells.2.trans (by rw [hrv])), (World.frozen?_of_block hb).trans (q2'.frozen 1), ⟨s2.mv, v', s2.ever, s.row ++ [x]⟩, q2'.setRow (fun k hk1 hk2 => hg.block k hk1 (fun e => hk2 (by rw [hrv]; exact e.symm))) (by rw [List.length_append]; exact ht) hvp, hev, rfl, hkg.trans (KeepsBut.setCell _ _ _ _ (.inl rfl)), ?_⟩
    rintro z (hz | hz | hz)
    · exact .inl (.inl hz)
    · exact ho z (.inr (.inl hz))
    · rcases hv with hv | hv
      · exact .inl (.inr (.inr (by rw [← hv]; exact hz)))
      · refine .inr ?_
        have e : v'.ownBlock = some z := hz
        rw [hv] at e
        have := Option.some.inj e
        have := hk'.size
        omega
  have hrow := h.row
  have HP : Hid (p ≤ W.heap.size) := Nat.le_of_lt h.plt
  obtain ⟨c0, c1⟩ := h.cells
  have f0 := h.frozen 0
  have hmm := @run_makeMap Try.prog
  have qT : ∀ (w : World) (r : Option Nat), (binOp .eql 49 (.map r) (.map none)).run Try.prog w = .ok (.bool r.isNone) w := fun w r => run_eql_map_nil w _ _ _ r Try.underlying49
  rcases h.map with ⟨hm0, he0⟩ | ⟨mb, hm0, hpm, -⟩
  · have q1 := h.newMap he0
    obtain ⟨w2, hrun, q2, hg2⟩ := quput_any p W.heap.size _ x _ q1 rfl hx h9
    have hk2 : KeepsBut (s.own p) W w2 := ((KeepsBut.ofBelow (below_alloc W (.map #[] 0))).trans (KeepsBut.setCell _ _ _ _ (.inl rfl))).andThen (KeepsBut.ofGrownO (S := fun z => z = W.heap.size) hg2 (fun q hq => .inl (Option.some.inj hq).symm)) (fun z hz => .inr (by omega))
    have T2 := TAIL.out _ w2 q2 rfl rfl rfl hk2 (by
      rintro z (hz | hz | hz)
      · exact .inl (.inl hz)
      · refine .inr ?_
        have := Option.some.inj (Value.map.inj hz)
        omega
      · exact .inl (.inr (.inr hz)))
    have c2 := q2.cells
    obtain ⟨-, c2⟩ := c2
    obtain ⟨d0, d1⟩ := q1.cells
    have hqa : Qu (W.alloc (.map #[] 0)) p s := h.below (below_alloc _ _)
    have fa := hqa.frozen 0
    obtain ⟨ca, -⟩ := hqa.cells
    have TR : Hid (TailZ p (w2.alloc (.cells #[.int .i64 x] 3)) s.rv s.row.length s.row) := (q2.below (below_alloc _ _)).row
    have HS : Hid (p ≤ (w2.alloc (.cells #[.int .i64 x] 3)).heap.size) := Nat.le_trans (Nat.le_of_lt q2.plt) (below_alloc _ _).size
    obtain ⟨mv, rv, ever, row⟩ := s
    obtain ⟨n, hn⟩ : ∃ n, row.length = n := ⟨_, rfl⟩
    simp only [hn] at *
    subst hm0
    clear TAIL h hx q1 q2 hg2 hk2 hn he0 hrow hqa
    go_enter Try.func44, Try.ntmps44
    go_wp2_with (at_builtin; refine wpList_addQu _ rfl (.tmp 22) (.tmp 24) rfl p rv n row rfl TR.out _ 1 [x] rfl (zs_one _ _ _) (by omega) (by omega) HS.out ?_; intro a3 c3 w3 ht3 hg3 hv3; obtain ⟨k1, k2, FIN⟩ := T2 _ w3 ht3 hg3 hv3)
    first | go_ret | go_end0
    exact ⟨rfl, FIN⟩
  · obtain ⟨w2, hrun, q2, hg2⟩ := quput_any p mb s x W h hm0 hx h9
    have hk2 : KeepsBut (s.own p) W w2 := KeepsBut.ofGrownO hg2 (fun q hq => .inl (.inr (.inl (by rw [hm0, Option.some.inj hq]))))
    have T2 := TAIL.out _ w2 q2 rfl rfl rfl hk2 (fun z hz => .inl hz)
    have c2 := q2.cells
    obtain ⟨-, c2⟩ := c2
    have TR : Hid (TailZ p (w2.alloc (.cells #[.int .i64 x] 3)) s.rv s.row.length s.row) := (q2.below (below_alloc _ _)).row
    have HS : Hid (p ≤ (w2.alloc (.cells #[.int .i64 x] 3)).heap.size) := Nat.le_trans (Nat.le_of_lt q2.plt) (below_alloc _ _).size
    obtain ⟨mv, rv, ever, row⟩ := s
    obtain ⟨n, hn⟩ : ∃ n, row.length = n := ⟨_, rfl⟩
    simp only [hn] at *
    subst hm0
    clear TAIL h hx q2 hg2 hk2 hn hrow hmm
    go_enter Try.func44, Try.ntmps44
    go_wp2_with (at_builtin; refine wpList_addQu _ rfl (.tmp 22) (.tmp 24) rfl p rv n row rfl TR.out _ 1 [x] rfl (zs_one _ _ _) (by omega) (by omega) HS.out ?_; intro a3 c3 w3 ht3 hg3 hv3; obtain ⟨k1, k2, FIN⟩ := T2 _ w3 ht3 hg3 hv3)
    first | go_ret | go_end0
    exact ⟨rfl, FIN⟩

end Go.Proofs.Ytkckbeekehecnaa
