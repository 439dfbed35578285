/-
  Opening arguments whose parts are slices, too: how long each can be, by the form's own reach.
-/
import Derived.Test.YtkcijbejngnalaaLEq
import Derived.SizedLaws
namespace Go.Proofs.Ytkcijbejngnalaa
open Go.RowKit Go.ChangeShapes Go.WideShapes Go.ChangeAt
set_option linter.unusedVariables false
set_option maxRecDepth 100000

section
variable {H : Type}
/-- No slice in it is longer than can be. -/
def WtOk (t : TypeId) (d : DataW H) : Prop := ∀ n ∈ d.weights Try.prog t, n ≤ reachBytes
theorem wt_top {ts : List TypeId} {ds : List (DataW H)} (h : (DataW.weightsEach Try.prog ts ds).all (· ≤ reachBytes) = true) {j : Nat} {t : TypeId} {d : DataW H} (ht : ts[j]? = some t) (hd : ds[j]? = some d) : WtOk t d := by
  intro n hn
  have := List.all_eq_true.1 h _ (DataW.weights_mem_each ht hd n hn)
  simpa using this
theorem wt_all {e : TypeId} : ∀ {l : List (DataW H)} {d : DataW H}, d ∈ l → ∀ n ∈ d.weights Try.prog e, n ∈ DataW.weightsAll Try.prog e l
  | x :: l, d, h, n, hn => by
    simp only [DataW.weightsAll, List.mem_append]
    rcases List.mem_cons.1 h with rfl | h
    · exact .inl hn
    · exact .inr (wt_all h n hn)
  | [], d, h, _, _ => by cases h
theorem wt_slice {t e : TypeId} {elems spare : List (DataW H)} (ht : Try.prog.underlying t = some (.slice e)) (h : WtOk t (.slice elems spare)) : (elems.length + spare.length) * Try.prog.bytesOf e ≤ reachBytes ∧ ∀ d ∈ elems, WtOk e d := by
  constructor
  · exact h _ (by simp [DataW.weights, ht])
  · intro d hd n hn
    refine h n ?_
    have := wt_all hd n hn
    simp [DataW.weights, ht, this]
theorem wt_struct {t : TypeId} {fs : Array Field} {parts : List (DataW H)} (ht : Try.prog.underlying t = some (.struct fs)) (h : WtOk t (.agg parts)) {i : Nat} {f : Field} {d : DataW H} (hf : fs.toList[i]? = some f) (hd : parts[i]? = some d) : WtOk f.type d := by
  intro n hn
  refine h n ?_
  have h1 : (fs.toList.map (·.type))[i]? = some f.type := by rw [List.getElem?_map, hf]; rfl
  have := DataW.weights_mem_each h1 hd n hn
  simpa [DataW.weights, ht] using this

variable {w : World} {base : Nat} {spare : Nat → Bool} {held : Bool} {enc : TypeId × Value → H}
theorem zs_of_trodW {fuel : Nat} {v : Value} {d : DataW H} {p : List MemPlace} (h : DataW.trod enc Try.prog w base spare held fuel 39 [v] = some (d, p)) (hw : WtOk 39 d) : ∃ l : List Int, Zs w v l ∧ (∀ z ∈ l, (Lit.int .i64 z).wf = true) ∧ l.length ≤ 17592186044416 := by
  obtain ⟨l, hz, hf⟩ := zs_of_trod h
  refine ⟨l, hz, hf, ?_⟩
  rcases Go.Deep.open_slice1 Try.underlying39 (by kernel_rfl) h with ⟨hcs, _⟩ | ⟨a, len, cap, m, n, V, D, Pl, hcs, _, hl, hm, hmm, hx, _⟩
  · injection hcs with hv _
    subst hv
    have := (zs_len hz).1
    omega
  · injection hcs with hv _
    subst hv
    have e1 := (zs_len hz).1
    injection hx with hx _
    subst hx
    have h1 := (wt_slice Try.underlying39 hw).1
    have hb : Try.prog.bytesOf 3 = 8 := by kernel_rfl
    have hr := reachBytes_lt
    rw [hb] at h1
    simp at h1
    omega
theorem bs_of_trodW {fuel : Nat} {v : Value} {d : DataW H} {p : List MemPlace} (h : DataW.trod enc Try.prog w base spare held fuel 25 [v] = some (d, p)) (hw : WtOk 25 d) : ∃ l : List UInt8, Bs w v l ∧ l.length ≤ 140737488355328 := by
  obtain ⟨l, hz⟩ := bytes_of_trod Try.underlying25 Try.underlying5 (by kernel_rfl) h
  refine ⟨l, hz, ?_⟩
  rcases Go.Deep.open_slice1 Try.underlying25 (by kernel_rfl) h with ⟨hcs, _⟩ | ⟨a, len, cap, m, n, V, D, Pl, hcs, _, hl, hm, hmm, hx, _⟩
  · injection hcs with hv _
    subst hv
    have := (bs_len hz).1
    omega
  · injection hcs with hv _
    subst hv
    have e1 := (bs_len hz).1
    injection hx with hx _
    subst hx
    have h1 := (wt_slice Try.underlying25 hw).1
    have hb : Try.prog.bytesOf 5 = 1 := by kernel_rfl
    have hr := reachBytes_lt
    rw [hb] at h1
    simp at h1
    omega
/-- How long an equation's parts are. -/
def QeW (e : Qe) : Prop := (∀ z ∈ e.of, (Lit.int .i64 z).wf = true) ∧ e.of.length ≤ 17592186044416 ∧ e.va.length ≤ 140737488355328
theorem qe_of_trodW {fuel : Nat} {c0 c1 : Value} {d : DataW H} {p : List MemPlace} (h : DataW.trod enc Try.prog w base spare held fuel 41 [c0, c1] = some (d, p)) (hw : WtOk 41 d) : ∃ (of : List Int) (va : List UInt8), QeP w ⟨c0, c1, of, va⟩ ∧ QeW ⟨c0, c1, of, va⟩ := by
  obtain ⟨⟨y0, p0⟩, ⟨y1, p1⟩, k, hx, -, t0, t1⟩ := Go.ChangeShapes.trod_struct2 Try.underlying41 h
  injection hx with hx _
  subst hx
  have w0 : WtOk 39 y0 := wt_struct Try.underlying41 hw (i := 0) rfl rfl
  have w1 : WtOk 25 y1 := wt_struct Try.underlying41 hw (i := 1) rfl rfl
  have u0 : DataW.trod enc Try.prog w base spare held k 39 [c0] = some (y0, p0) := t0
  have u1 : DataW.trod enc Try.prog w base spare held k 25 [c1] = some (y1, p1) := t1
  obtain ⟨of, hz, hf, hl⟩ := zs_of_trodW u0 w0
  obtain ⟨va, hb, hm⟩ := bs_of_trodW u1 w1
  exact ⟨of, va, ⟨hz, hb⟩, hf, hl, hm⟩
theorem open_eqnW {b0 : Nat} {v : Value} {d : DataW H} {p : List MemPlace} (hv : Value.okWide Try.prog w .any b0 41 v) (h : ∃ fuel, DataW.trod enc Try.prog w base spare held fuel 41 v.cells.toList = some (d, p)) (hw : WtOk 41 d) :
    ∃ e : Qe, v = .agg #[e.ov, e.vv] ∧ QeP w e ∧ QeW e := by
  obtain ⟨cs, rfl, hsz⟩ := okWide_struct Try.underlying41 hv
  obtain ⟨fuel, hf⟩ := h
  have h2 : cs.toList.length = 2 := by rw [Array.length_toList, hsz]; kernel_rfl
  simp only [Value.cells] at hf
  match hc : cs.toList, h2 with
  | [c0, c1], _ =>
    rw [hc] at hf
    obtain ⟨of, va, h1, h3⟩ := qe_of_trodW hf hw
    refine ⟨⟨c0, c1, of, va⟩, ?_, h1, h3⟩
    congr 1
    exact Array.toList_inj.1 hc
theorem eqs_of_trodW {fuel : Nat} {v : Value} {d : DataW H} {p : List MemPlace}
    (h : DataW.trod enc Try.prog w base spare held fuel 37 [v] = some (d, p)) (hw : WtOk 37 d) : ∃ l : List Qe, Qs w v l ∧ (∀ e ∈ l, QeW e) ∧ l.length ≤ 140737488355328 := by
  have inh : Inhabited Qe := ⟨⟨.slice none 0 0, .slice none 0 0, [], []⟩⟩
  have hc5 : Try.prog.cellsOf 41 = 2 := by kernel_rfl
  rcases Go.Deep.open_slice Try.underlying37 h with ⟨hcs, _⟩ | ⟨a, len, cap, m, n, D, Pl, hcs, _, hl, hm, hmm, hxx, hx⟩
  · injection hcs with hv _
    subst hv
    exact ⟨[], Qs.nil w, fun e he => (by cases he), by simp⟩
  · injection hcs with hv _
    injection hxx with hxx _
    subst hxx
    have hlm : len ≤ m := by rw [hmm]; split <;> omega
    rw [hc5] at hx
    obtain ⟨hw1, hw2⟩ := wt_slice Try.underlying37 hw
    have hb : Try.prog.bytesOf 41 = 48 := by kernel_rfl
    have hr := reachBytes_lt
    rw [hb] at hw1
    simp at hw1
    obtain ⟨F, hF⟩ := Go.Deep.choose_lt (α := Qe) (n := len) (p := fun i y => (QeP w y ∧ QeW y) ∧ ∀ j, j < 2 → w.cell? ((a.add (i * 2)).add j) = y.cells[j]?) (fun i hi => by
      obtain ⟨cs', h1, h2⟩ := hx i (by omega)
      obtain ⟨_, hl3, hcell⟩ := World.cells?_some h1
      match cs', hl3 with
      | [c0, c1], _ =>
        obtain ⟨of, va, hq, hw⟩ := qe_of_trodW h2 (hw2 _ (List.mem_map.2 ⟨i, List.mem_range.2 hi, rfl⟩))
        exact ⟨⟨c0, c1, of, va⟩, ⟨hq, hw⟩, fun j hj => by rw [hcell j hj]; rfl⟩)
    refine ⟨(List.range len).map F, ⟨⟨by rw [length_qs], some a, cap, by simpa using hv, by simpa using hl, hm, fun h => by simp at h, ?_⟩, ?_⟩, ?_, by simp; omega⟩
    · by_cases h0 : len = 0
      · exact .inl (by simpa using h0)
      · right
        have ha0 := (hF 0 (by omega)).2 0 (by omega)
        have ha : a = ⟨a.block, a.off, none⟩ := addr_none (u := (F 0).ov) (by simpa [Addr.add, Qe.cells] using ha0)
        refine ⟨a.block, a.off, by rw [← ha], ?_⟩
        intro j u hj
        have hjl : j < len * 2 := by have := (List.getElem?_eq_some_iff.1 hj).1; rw [length_qs] at this; simpa using this
        have hi : j / 2 < len := by omega
        have e := qs_get ((List.range len).map F) (j / 2) (F (j / 2)) (by simp [hi]) (j % 2) (by omega)
        rw [show j / 2 * 2 + j % 2 = j by omega, hj] at e
        have hc := (hF (j / 2) hi).2 (j % 2) (by omega)
        rw [Go.Deep.add_add, show j / 2 * 2 + j % 2 = j by omega] at hc
        rw [ha, Addr.add_lit] at hc
        rw [hc, e]
    · intro y hy
      obtain ⟨i, hi, rfl⟩ := List.mem_map.1 hy
      exact (hF i (by simpa using hi)).1.1
    · intro y hy
      obtain ⟨i, hi, rfl⟩ := List.mem_map.1 hy
      exact (hF i (by simpa using hi)).1.2
/-- How long rows of numbers are. -/
def LzW (ls : List (List Int)) : Prop := (∀ l ∈ ls, (∀ z ∈ l, (Lit.int .i64 z).wf = true) ∧ l.length ≤ 17592186044416) ∧ ls.length ≤ 140737488355328
theorem lists_of_trodW {fuel : Nat} {v : Value} {d : DataW H} {p : List MemPlace}
    (h : DataW.trod enc Try.prog w base spare held fuel 56 [v] = some (d, p)) (hw : WtOk 56 d) : ∃ (vs : List Value) (ls : List (List Int)), Sl 1 w v vs.length vs ∧ LsZ w vs ls ∧ LzW ls := by
  rcases Go.Deep.open_slice1 Try.underlying56 (by kernel_rfl) h with ⟨hcs, _⟩ | ⟨a, len, cap, m, n, V, D, Pl, hcs, _, hl, hm, hmm, hxx, hx⟩
  · injection hcs with hv _
    subst hv
    exact ⟨[], [], ⟨rfl, none, 0, rfl, Nat.le_refl _, by simp [maxLen], fun _ => rfl, .inl rfl⟩, ⟨rfl, fun i v p h => by simp at h⟩, fun l hl => (by cases hl), by simp⟩
  · injection hcs with hv _
    injection hxx with hxx _
    subst hxx
    have hlm : len ≤ m := by rw [hmm]; split <;> omega
    obtain ⟨hw1, hw2⟩ := wt_slice Try.underlying56 hw
    have hb : Try.prog.bytesOf 39 = 24 := by kernel_rfl
    have hr := reachBytes_lt
    rw [hb] at hw1
    simp at hw1
    obtain ⟨F, hF⟩ := Go.Deep.choose_lt (α := List Int) (n := len) (p := fun i y => Zs w (V i) y ∧ (∀ z ∈ y, (Lit.int .i64 z).wf = true) ∧ y.length ≤ 17592186044416) (fun i hi => by
      obtain ⟨h1, h2⟩ := hx i (by omega)
      exact zs_of_trodW h2 (hw2 _ (List.mem_map.2 ⟨i, List.mem_range.2 hi, rfl⟩)))
    refine ⟨(List.range len).map V, (List.range len).map F, ⟨by simp, some a, cap, by simpa using hv, by simpa using hl, hm, fun h => by simp at h, ?_⟩, ⟨by simp, ?_⟩, ?_, by simp; omega⟩
    · by_cases h0 : len = 0
      · exact .inl (by simpa using h0)
      · right
        have ha : a = ⟨a.block, a.off, none⟩ := addr_none (u := V 0) (by simpa [Addr.add] using (hx 0 (by omega)).1)
        refine ⟨a.block, a.off, by rw [← ha], ?_⟩
        intro j u hj
        have hjl : j < len := by have := (List.getElem?_eq_some_iff.1 hj).1; simpa using this
        simp [hjl] at hj
        subst hj
        have hc := (hx j (by omega)).1
        rw [ha, Addr.add_lit] at hc
        exact hc
    · intro i v p hv hp
      have hi : i < len := by have := (List.getElem?_eq_some_iff.1 hv).1; simpa using this
      simp [hi] at hv hp
      subst hv; subst hp
      exact (hF i hi).1
    · intro y hy
      obtain ⟨i, hi, rfl⟩ := List.mem_map.1 hy
      exact (hF i (by simpa using hi)).2
end

end Go.Proofs.Ytkcijbejngnalaa
