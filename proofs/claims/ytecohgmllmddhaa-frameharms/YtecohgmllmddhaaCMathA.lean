/-
  Plain mathematics of the sum of 32 bits: no Go, no program. One step of the division, bytes and bits that are fed, that it is linear and can be undone.
-/
namespace Go.Proofs.Ytecohgmllmddhaa.MathA

/-- The polynomial without its highest bit. -/
def poly : BitVec 32 := 79764919#32

/-- One step of the division: times x. -/
def L (s : BitVec 32) : BitVec 32 := (s <<< 1) ^^^ (if s.msb then poly else 0#32)

def Ln : Nat → BitVec 32 → BitVec 32
  | 0, s => s
  | n + 1, s => Ln n (L s)

theorem L_xor (a b : BitVec 32) : L (a ^^^ b) = L a ^^^ L b := by
  unfold L
  rw [BitVec.msb_xor, BitVec.shiftLeft_xor_distrib]
  cases a.msb <;> cases b.msb <;> simp
  · ac_rfl
  · ac_rfl
  · have : (a <<< 1 ^^^ poly ^^^ (b <<< 1 ^^^ poly)) = (a <<< 1 ^^^ b <<< 1) ^^^ (poly ^^^ poly) := by ac_rfl
    rw [this, BitVec.xor_self, BitVec.xor_zero]

theorem Ln_xor (n : Nat) : ∀ a b : BitVec 32, Ln n (a ^^^ b) = Ln n a ^^^ Ln n b := by
  induction n with
  | zero => intro a b; rfl
  | succ n ih => intro a b; simp only [Ln]; rw [L_xor, ih]

theorem Ln_add (m n : Nat) : ∀ s, Ln (m + n) s = Ln n (Ln m s) := by
  induction m with
  | zero => intro s; simp [Ln]
  | succ m ih => intro s; rw [Nat.add_right_comm]; simp only [Ln]; exact ih _

theorem L_zero : L 0#32 = 0#32 := by decide +kernel

/-- The step can be undone. -/
theorem L_inj0 (s : BitVec 32) (h : L s = 0#32) : s = 0#32 := by
  unfold L at h
  cases hm : s.msb with
  | true =>
    rw [hm] at h
    have h0 := congrArg (fun x : BitVec 32 => x.getLsbD 0) h
    simp [poly] at h0
  | false =>
    rw [hm] at h
    simp at h
    apply BitVec.eq_of_getLsbD_eq
    intro i hi
    simp
    by_cases h31 : i = 31
    · subst h31
      rw [BitVec.msb_eq_getLsbD_last] at hm
      exact hm
    · have h0 := congrArg (fun x : BitVec 32 => x.getLsbD (i + 1)) h
      simp at h0
      exact h0 (by omega)

theorem xor_eq_zero {a b : BitVec 32} (h : a ^^^ b = 0#32) : a = b := by
  have h2 := congrArg (· ^^^ b) h
  simp only [BitVec.xor_assoc, BitVec.xor_self, BitVec.xor_zero, BitVec.zero_xor] at h2
  exact h2

theorem L_inj {a b : BitVec 32} (h : L a = L b) : a = b :=
  xor_eq_zero (L_inj0 _ (by rw [L_xor, h, BitVec.xor_self]))

theorem Ln_inj (n : Nat) : ∀ {a b : BitVec 32}, Ln n a = Ln n b → a = b := by
  induction n with
  | zero => intro a b h; exact h
  | succ n ih => intro a b h; exact L_inj (ih h)

/-- A bit, laid at the top. -/
def top (x : Bool) : BitVec 32 := if x then 2147483648#32 else 0#32

/-- Bits that are fed, the first one first. -/
def feed : BitVec 32 → List Bool → BitVec 32
  | s, [] => s
  | s, x :: xs => feed (L (s ^^^ top x)) xs

theorem feed_append (xs : List Bool) : ∀ s ys, feed s (xs ++ ys) = feed (feed s xs) ys := by
  induction xs with
  | nil => intro s ys; rfl
  | cons x xs ih => intro s ys; exact ih _ _

theorem feed_inj (xs : List Bool) : ∀ {s t}, feed s xs = feed t xs → s = t := by
  induction xs with
  | nil => intro s t h; exact h
  | cons x xs ih =>
    intro s t h
    have h1 := L_inj (ih h)
    have h2 := congrArg (· ^^^ top x) h1
    simp only [BitVec.xor_assoc, BitVec.xor_self, BitVec.xor_zero] at h2
    exact h2

/-- Up to 32 bits as a number, the first one at the top. -/
def pack : List Bool → BitVec 32
  | [] => 0#32
  | x :: xs => top x ^^^ (pack xs >>> 1)

theorem pack_low (xs : List Bool) : ∀ i, i + xs.length < 32 → (pack xs).getLsbD i = false := by
  induction xs with
  | nil => intro i _; simp [pack]
  | cons x xs ih =>
    intro i h
    simp only [List.length_cons] at h
    have ht : (top x).getLsbD i = false := by
      cases x with
      | false => simp [top]
      | true =>
        have h31 : (2147483648#32 : BitVec 32) = BitVec.twoPow 32 31 := by decide
        simp only [top, if_true, h31, BitVec.getLsbD_twoPow]
        simp; omega
    simp only [pack, BitVec.getLsbD_xor, BitVec.getLsbD_ushiftRight, ht]
    rw [ih (1 + i) (by omega)]
    rfl

theorem L_shift (s : BitVec 32) (h : s.getLsbD 0 = false) : L (s >>> 1) = s := by
  unfold L
  have hm : (s >>> 1).msb = false := by
    rw [BitVec.msb_eq_getLsbD_last]
    simp
  rw [hm]
  simp
  apply BitVec.eq_of_getLsbD_eq
  intro i hi
  simp
  cases i with
  | zero => simpa using h
  | succ i => 
    have : 1 + i = i + 1 := by omega
    simp [this]
    intro _
    omega

/-- What feeding up to 32 bits comes to. -/
theorem feed_pack (xs : List Bool) : ∀ s, xs.length ≤ 32 → feed s xs = Ln xs.length (s ^^^ pack xs) := by
  induction xs with
  | nil => intro s _; simp [feed, pack, Ln]
  | cons x xs ih =>
    intro s h
    simp only [List.length_cons] at h
    simp only [feed, List.length_cons, Ln, pack]
    rw [ih _ (by omega)]
    congr 1
    rw [← BitVec.xor_assoc, L_xor (s ^^^ top x), L_shift _ (pack_low xs 0 (by omega))]

theorem top_msb (x : Bool) : (top x).msb = x := by cases x <;> decide

theorem pack_inj (xs : List Bool) : ∀ ys, xs.length = ys.length → xs.length ≤ 32 → pack xs = pack ys → xs = ys := by
  induction xs with
  | nil => intro ys h _ _; cases ys with | nil => rfl | cons => simp at h
  | cons x xs ih =>
    intro ys h hl he
    cases ys with
    | nil => simp at h
    | cons y ys =>
      simp only [List.length_cons] at h hl
      simp only [pack] at he
      have hm := congrArg BitVec.msb he
      have hs : ∀ l, (pack l >>> 1).msb = false := by
        intro l; rw [BitVec.msb_eq_getLsbD_last]; simp
      simp only [BitVec.msb_xor, top_msb, hs, Bool.xor_false] at hm
      subst hm
      have he2 := congrArg (top x ^^^ ·) he
      simp only [← BitVec.xor_assoc, BitVec.xor_self, BitVec.zero_xor] at he2
      have he3 : pack xs = pack ys := by
        have := congrArg L he2
        rwa [L_shift _ (pack_low xs 0 (by omega)), L_shift _ (pack_low ys 0 (by omega))] at this
      rw [ih ys (by omega) (by omega) he3]

/-- Two rows of bits that differ within 32 in a row are told apart. -/
theorem feed_burst (s : BitVec 32) (pre a b post : List Bool) (h : a.length = b.length) (h32 : a.length ≤ 32)
    (he : feed s (pre ++ a ++ post) = feed s (pre ++ b ++ post)) : a = b := by
  rw [feed_append, feed_append, feed_append (pre ++ b), feed_append pre] at he
  have h1 := feed_inj post he
  rw [feed_pack a _ h32, feed_pack b _ (by omega), h] at h1
  have h2 := congrArg (feed s pre ^^^ ·) (Ln_inj _ h1)
  simp only [← BitVec.xor_assoc, BitVec.xor_self, BitVec.zero_xor] at h2
  exact pack_inj a b h h32 h2

end Go.Proofs.Ytecohgmllmddhaa.MathA
