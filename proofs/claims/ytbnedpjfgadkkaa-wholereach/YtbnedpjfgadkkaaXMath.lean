/-
  Blocks put upon each other: the plain mathematics. No program.
-/
namespace Go.Proofs.Ytbnedpjfgadkkaa

/-- Two blocks, as long, one upon the other. -/
def xorL (a b : List UInt8) : List UInt8 := List.zipWith (· ^^^ ·) a b

/-- All blocks upon one. -/
def xorAll (l : List UInt8) (ls : List (List UInt8)) : List UInt8 := ls.foldl xorL l

/-- Noughts. -/
def zeros (n : Nat) : List UInt8 := List.replicate n 0

/-- Are all as long? -/
def fitB (n : Nat) (ls : List (List UInt8)) : Bool := ls.all fun l => l.length == n

theorem zeros_length (n : Nat) : (zeros n).length = n := by simp [zeros]

theorem xorL_length {a b : List UInt8} (h : b.length = a.length) : (xorL a b).length = a.length := by simp [xorL, h]

theorem fitB_mem {n : Nat} {ls : List (List UInt8)} (h : fitB n ls = true) {l : List UInt8} (hl : l ∈ ls) : l.length = n := by
  have := List.all_eq_true.1 h l hl
  simpa using this

theorem fitB_of {n : Nat} {ls : List (List UInt8)} (h : ∀ l ∈ ls, l.length = n) : fitB n ls = true := by
  rw [fitB, List.all_eq_true]
  intro l hl
  simpa using h l hl

theorem fitB_cons (n : Nat) (l : List UInt8) (ls : List (List UInt8)) : fitB n (l :: ls) = (l.length == n && fitB n ls) := rfl

theorem xorAll_length {l : List UInt8} {ls : List (List UInt8)} (h : ∀ x ∈ ls, x.length = l.length) : (xorAll l ls).length = l.length := by
  induction ls generalizing l with
  | nil => rfl
  | cons x ls ih =>
    have hx := h x (by simp)
    have e := xorL_length hx
    show (xorAll (xorL l x) ls).length = l.length
    rw [ih (fun y hy => by rw [e]; exact h y (by simp [hy])), e]

theorem getD_xorL {a b : List UInt8} (h : b.length = a.length) (k : Nat) (hk : k < a.length) : (xorL a b).getD k 0 = a.getD k 0 ^^^ b.getD k 0 := by
  have hk' : k < b.length := by omega
  simp [xorL, List.getD, hk, hk', List.getElem?_zipWith]

/-- Byte by byte. -/
theorem getD_xorAll {l : List UInt8} {ls : List (List UInt8)} (h : ∀ x ∈ ls, x.length = l.length) (k : Nat) (hk : k < l.length) :
    (xorAll l ls).getD k 0 = ls.foldl (fun a x => a ^^^ x.getD k 0) (l.getD k 0) := by
  induction ls generalizing l with
  | nil => rfl
  | cons x ls ih =>
    have hx := h x (by simp)
    have e := xorL_length hx
    show (xorAll (xorL l x) ls).getD k 0 = _
    rw [ih (fun y hy => by rw [e]; exact h y (by simp [hy])) (by omega), getD_xorL hx k hk]
    rfl

theorem ext_getD {a b : List UInt8} (hl : a.length = b.length) (h : ∀ k, k < a.length → a.getD k 0 = b.getD k 0) : a = b := by
  apply List.ext_getElem hl
  intro i h1 h2
  have := h i h1
  simpa [List.getD, h1, h2] using this

theorem getD_zeros (n k : Nat) : (zeros n).getD k 0 = 0 := by
  by_cases h : k < n <;> simp [zeros, List.getD, h]

/-- Upon noughts the first is itself. -/
theorem xorL_zeros (l : List UInt8) : xorL (zeros l.length) l = l := by
  apply ext_getD
  · rw [xorL_length (by simp [zeros]), zeros_length]
  · intro k hk
    have hk' : k < l.length := by rw [xorL_length (by simp [zeros]), zeros_length] at hk; exact hk
    rw [getD_xorL (by simp [zeros]) k (by rw [zeros_length]; exact hk'), getD_zeros]
    simp

theorem xorAll_first {n : Nat} {l : List UInt8} (h : l.length = n) (ls : List (List UInt8)) : xorAll (zeros n) (l :: ls) = xorAll l ls := by
  subst h
  show xorAll (xorL (zeros l.length) l) ls = _
  rw [xorL_zeros]

theorem xorAll_append (l : List UInt8) (ls ms : List (List UInt8)) : xorAll l (ls ++ ms) = xorAll (xorAll l ls) ms := by
  simp [xorAll, List.foldl_append]

theorem xorAll_next {l : List UInt8} {ls : List (List UInt8)} {k : Nat} (hk : k < ls.length) : xorL (xorAll l (ls.take k)) ls[k] = xorAll l (ls.take (k + 1)) := by
  rw [List.take_succ_eq_append_getElem hk, xorAll_append]
  rfl

theorem xorL_comm (a b : List UInt8) : xorL a b = xorL b a := by
  unfold xorL
  rw [List.zipWith_comm]
  congr 1
  funext x y
  exact UInt8.xor_comm y x

theorem xorL_assoc (a b c : List UInt8) : xorL (xorL a b) c = xorL a (xorL b c) := by
  unfold xorL
  induction a generalizing b c with
  | nil => rfl
  | cons x a ih =>
    cases b with
    | nil => rfl
    | cons y b =>
      cases c with
      | nil => rfl
      | cons z c =>
        simp only [List.zipWith_cons_cons, ih, UInt8.xor_assoc]

theorem xorL_right_comm (a b c : List UInt8) : xorL (xorL a b) c = xorL (xorL a c) b := by
  rw [xorL_assoc, xorL_comm b c, ← xorL_assoc]

theorem xorL_self (l : List UInt8) : xorL l l = zeros l.length := by
  induction l with
  | nil => rfl
  | cons x l ih =>
    simp only [xorL, List.zipWith_cons_cons, UInt8.xor_self, zeros, List.length_cons, List.replicate_succ]
    congr 1

theorem xorL_zeros_right {n : Nat} {l : List UInt8} (h : l.length = n) : xorL l (zeros n) = l := by
  rw [xorL_comm]
  subst h
  exact xorL_zeros l

/-- Twice is as if never. -/
theorem xorL_twice {a b : List UInt8} (h : b.length = a.length) : xorL (xorL a b) b = a := by
  rw [xorL_assoc, xorL_self, xorL_zeros_right h.symm]

/-- Are all bytes 0? -/
def zeroB (l : List UInt8) : Bool := l.all (· == 0)

theorem zeroB_zeros (n : Nat) : zeroB (zeros n) = true := by
  simp [zeroB, zeros]

end Go.Proofs.Ytbnedpjfgadkkaa
