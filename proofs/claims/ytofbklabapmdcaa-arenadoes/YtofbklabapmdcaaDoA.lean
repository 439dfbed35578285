/-
  The document's list of blocks: how it lies, and what Find answers.
-/
import Derived.Test.YtofbklabapmdcaaARoom
namespace Go.Proofs.Ytofbklabapmdcaa
open Go.RowKit
set_option linter.unusedVariables false

/-- A block of the list: its number, where its bytes lie, what they are. -/
structure RB where
  n : Nat
  q : Nat
  b : List UInt8

def rbCells (size : Nat) (x : RB) : List Value := [.int .i64 (x.n : Int), .slice (some ⟨x.q, 0, none⟩) size size]

theorem length_rbs (size : Nat) (l : List RB) : (l.flatMap (rbCells size)).length = l.length * 2 := by
  induction l with
  | nil => rfl
  | cons x l ih => simp only [List.flatMap_cons, List.length_append, ih, List.length_cons]; simp [rbCells]; omega

theorem rbs_at (size : Nat) (l : List RB) : ∀ i x, l[i]? = some x → ∀ j, j < 2 → (l.flatMap (rbCells size))[i * 2 + j]? = (rbCells size x)[j]? := by
  induction l with
  | nil => intro i x h; simp at h
  | cons y l ih =>
    intro i x h j hj
    simp only [List.flatMap_cons]
    cases i with
    | zero =>
      simp at h
      subst h
      rw [List.getElem?_append_left (by simp [rbCells]; omega)]
      simp
    | succ i =>
      rw [List.getElem?_append_right (by simp [rbCells]; omega)]
      have e : (i + 1) * 2 + j - (rbCells size y).length = i * 2 + j := by simp [rbCells]; omega
      rw [e]
      exact ih i x (by simpa using h) j hj

def RBs (w : World) (size : Nat) (v : Value) (l : List RB) : Prop := Sl 2 w v l.length (l.flatMap (rbCells size))

def findI (l : List RB) (i : Int) : Int := match l.findIdx? (fun x => decide ((x.n : Int) = i)) with | some k => (k : Int) | none => -1

theorem find_hit {l : List RB} {i : Int} {j : Nat} {y : RB} (hj : l[j]? = some y) (hy : (y.n : Int) = i) (hb : ∀ (k : Nat) (x : RB), k < j → l[k]? = some x → (x.n : Int) ≠ i) : findI l i = (j : Int) := by
  obtain ⟨hl, he⟩ := List.getElem?_eq_some_iff.1 hj
  have h : l.findIdx? (fun x => decide ((x.n : Int) = i)) = some j := by
    rw [List.findIdx?_eq_some_iff_getElem]
    refine ⟨hl, by rw [he]; simpa using hy, fun k hk => ?_⟩
    have := hb k _ hk (List.getElem?_eq_getElem (by omega))
    simpa using this
  unfold findI
  rw [h]

theorem find_miss {l : List RB} {i : Int} (h : ∀ (k : Nat) (x : RB), l[k]? = some x → (x.n : Int) ≠ i) : findI l i = -1 := by
  have h : l.findIdx? (fun x => decide ((x.n : Int) = i)) = none := by
    rw [List.findIdx?_eq_none_iff]
    intro x hx
    obtain ⟨k, hk, rfl⟩ := List.mem_iff_getElem.1 hx
    have := h k _ (List.getElem?_eq_getElem hk)
    simpa using this
  unfold findI
  rw [h]

theorem find_cases (l : List RB) (i : Int) : (∃ (j : Nat) (y : RB), l[j]? = some y ∧ (y.n : Int) = i ∧ findI l i = (j : Int)) ∨ (findI l i = -1 ∧ ∀ (k : Nat) (x : RB), l[k]? = some x → (x.n : Int) ≠ i) := by
  by_cases h : ∃ (k : Nat) (x : RB), l[k]? = some x ∧ (x.n : Int) = i
  · left
    cases hf : l.findIdx? (fun x => decide ((x.n : Int) = i)) with
    | none =>
      rw [List.findIdx?_eq_none_iff] at hf
      obtain ⟨k, x, hk, hx⟩ := h
      have := hf x (List.mem_of_getElem? hk)
      simp [hx] at this
    | some j =>
      have hf' := hf
      rw [List.findIdx?_eq_some_iff_getElem] at hf'
      obtain ⟨hl, hp, _⟩ := hf'
      exact ⟨j, l[j], List.getElem?_eq_getElem hl, by simpa using hp, by unfold findI; rw [hf]⟩
  · have h' : ∀ (k : Nat) (x : RB), l[k]? = some x → (x.n : Int) ≠ i := fun k x hk hx => h ⟨k, x, hk, hx⟩
    exact .inr ⟨find_miss h', h'⟩


set_option maxHeartbeats 400000 in
/-- Find: it only reads. -/
theorem find_any (size : Nat) (v : Value) (l : List RB) (i : Int) (w : World) (h : RBs w size v l) : Calls Try.prog 8 #[v, .int .i64 i] w fun e w' => e = .returned (.int .i64 (findI l i)) ∧ w' = w := by
  obtain ⟨-, ao, cap, rfl, h2, h3, -, h5⟩ := h
  unfold maxLen at h3
  obtain ⟨n, hn⟩ : ∃ n, l.length = n := ⟨_, rfl⟩
  rw [hn] at h2 h5 ⊢
  have Hn : Hid (l.length = n) := hn
  clear hn
  go_enter Try.func8, Try.ntmps8
  go_wp2
  go_loop [5] (fun c => ∃ k : Nat, k ≤ n ∧ c = .int .i64 k ∧ ∀ (j : Nat) (x : RB), j < k → l[j]? = some x → (x.n : Int) ≠ i) (fun c => n - (intOf c).toNat)
  case atStart => exact ⟨0, by omega, rfl, fun j x hj => by omega⟩
  case round =>
    obtain ⟨k, hk, rfl, he⟩ := hrel
    have HE : Hid (∀ (j : Nat) (x : RB), j < k → l[j]? = some x → (x.n : Int) ≠ i) := he
    clear he
    by_cases hlt : k < n
    · have hkl : k < l.length := by rw [Hn.out]; exact hlt
      rcases h5 with h0 | ⟨b, off, rfl, hc⟩
      · omega
      obtain ⟨y, hy⟩ : ∃ y, l[k]? = some y := ⟨_, List.getElem?_eq_getElem hkl⟩
      have hck := hc (k * 2 + 0) _ (by rw [rbs_at size l k y hy 0 (by omega)]; rfl)
      rw [Nat.add_zero] at hck
      have HY : Hid (l[k]? = some y) := hy
      clear hc hy
      by_cases hx : (y.n : Int) = i
      · have HX : Hid ((y.n : Int) = i) := hx
        rw [hx] at hck
        clear hx
        go_wp2
        go_ret
        exact ⟨ret_int (find_hit HY.out HX.out HE.out).symm, rfl⟩
      · have hx' : ((y.n : Int) == i) = false := by simpa using hx
        go_wp2
        go_round
        case rel =>
          refine ⟨k + 1, by omega, by go_num, fun j x hj hl => ?_⟩
          by_cases e : j = k
          · subst e
            rw [HY.out] at hl
            obtain rfl := Option.some.inj hl
            exact hx
          · exact HE.out j x (by omega) hl
        case measure => simp [intOf]; omega
    · go_wp2
      go_ret
      refine ⟨ret_int (find_miss (fun j x hj => HE.out j x ?_ hj)).symm, rfl⟩
      have := (List.getElem?_eq_some_iff.1 hj).1
      rw [Hn.out] at this
      omega

end Go.Proofs.Ytofbklabapmdcaa
