/-
  Texts that lie together: CMathA CMathB CPrim CTab CNew CSum CSeal CSpk CMathC CMathD CMathF CRefA CRefC.
-/
import Derived.Test.YtkckbeekehecnaaGreatRows
import Derived.Test.YtkckbeekehecnaaGreatZBase
import Derived.Deep.RegionWith
import Derived.Deep.CutRange
import Derived.Lib.SlBytesConst
namespace Go.Proofs.YtkckbeekehecnaaGreat

section
/-
  Plain mathematics of the sum of 32 bits: no Go, no program. One step of the division, bytes and bits that are fed, that it is linear and can be undone.
-/
namespace MathA

/-- The polynomial without its highest bit. -/
def poly : BitVec 32 := 79764919#32

/-- One step of the division: times x. -/
def L (s : BitVec 32) : BitVec 32 := (s <<< 1) ^^^ (if s.msb then poly else 0#32)

def Ln : Nat → BitVec 32 → BitVec 32
  | 0, s => s
  | n + 1, s => Ln n (L s)

theorem L_xor (a b : BitVec 32) : L (a ^^^ b) = L a ^^^ L b := by
  unfold L
  rw [BitVec.msb_xor, BitVec.shiftLeft_xor_distrib]
  cases a.msb <;> cases b.msb <;> simp
  · ac_rfl
  · ac_rfl
  · have : (a <<< 1 ^^^ poly ^^^ (b <<< 1 ^^^ poly)) = (a <<< 1 ^^^ b <<< 1) ^^^ (poly ^^^ poly) := by ac_rfl
    rw [this, BitVec.xor_self, BitVec.xor_zero]

theorem Ln_xor (n : Nat) : ∀ a b : BitVec 32, Ln n (a ^^^ b) = Ln n a ^^^ Ln n b := by
  induction n with
  | zero => intro a b; rfl
  | succ n ih => intro a b; simp only [Ln]; rw [L_xor, ih]

theorem Ln_add (m n : Nat) : ∀ s, Ln (m + n) s = Ln n (Ln m s) := by
  induction m with
  | zero => intro s; simp [Ln]
  | succ m ih => intro s; rw [Nat.add_right_comm]; simp only [Ln]; exact ih _

theorem L_zero : L 0#32 = 0#32 := by decide +kernel

/-- The step can be undone. -/
theorem L_inj0 (s : BitVec 32) (h : L s = 0#32) : s = 0#32 := by
  unfold L at h
  cases hm : s.msb with
  | true =>
    rw [hm] at h
    have h0 := congrArg (fun x : BitVec 32 => x.getLsbD 0) h
    simp [poly] at h0
  | false =>
    rw [hm] at h
    simp at h
    apply BitVec.eq_of_getLsbD_eq
    intro i hi
    simp
    by_cases h31 : i = 31
    · subst h31
      rw [BitVec.msb_eq_getLsbD_last] at hm
      exact hm
    · have h0 := congrArg (fun x : BitVec 32 => x.getLsbD (i + 1)) h
      simp at h0
      exact h0 (by omega)

theorem xor_eq_zero {a b : BitVec 32} (h : a ^^^ b = 0#32) : a = b := by
  have h2 := congrArg (· ^^^ b) h
  simp only [BitVec.xor_assoc, BitVec.xor_self, BitVec.xor_zero, BitVec.zero_xor] at h2
  exact h2

theorem L_inj {a b : BitVec 32} (h : L a = L b) : a = b :=
  xor_eq_zero (L_inj0 _ (by rw [L_xor, h, BitVec.xor_self]))

theorem Ln_inj (n : Nat) : ∀ {a b : BitVec 32}, Ln n a = Ln n b → a = b := by
  induction n with
  | zero => intro a b h; exact h
  | succ n ih => intro a b h; exact L_inj (ih h)

/-- A bit, laid at the top. -/
def top (x : Bool) : BitVec 32 := if x then 2147483648#32 else 0#32

/-- Bits that are fed, the first one first. -/
def feed : BitVec 32 → List Bool → BitVec 32
  | s, [] => s
  | s, x :: xs => feed (L (s ^^^ top x)) xs

theorem feed_append (xs : List Bool) : ∀ s ys, feed s (xs ++ ys) = feed (feed s xs) ys := by
  induction xs with
  | nil => intro s ys; rfl
  | cons x xs ih => intro s ys; exact ih _ _

theorem feed_inj (xs : List Bool) : ∀ {s t}, feed s xs = feed t xs → s = t := by
  induction xs with
  | nil => intro s t h; exact h
  | cons x xs ih =>
    intro s t h
    have h1 := L_inj (ih h)
    have h2 := congrArg (· ^^^ top x) h1
    simp only [BitVec.xor_assoc, BitVec.xor_self, BitVec.xor_zero] at h2
    exact h2

/-- Up to 32 bits as a number, the first one at the top. -/
def pack : List Bool → BitVec 32
  | [] => 0#32
  | x :: xs => top x ^^^ (pack xs >>> 1)

theorem pack_low (xs : List Bool) : ∀ i, i + xs.length < 32 → (pack xs).getLsbD i = false := by
  induction xs with
  | nil => intro i _; simp [pack]
  | cons x xs ih =>
    intro i h
    simp only [List.length_cons] at h
    have ht : (top x).getLsbD i = false := by
      cases x with
      | false => simp [top]
      | true =>
        have h31 : (2147483648#32 : BitVec 32) = BitVec.twoPow 32 31 := by decide
        simp only [top, if_true, h31, BitVec.getLsbD_twoPow]
        simp; omega
    simp only [pack, BitVec.getLsbD_xor, BitVec.getLsbD_ushiftRight, ht]
    rw [ih (1 + i) (by omega)]
    rfl

theorem L_shift (s : BitVec 32) (h : s.getLsbD 0 = false) : L (s >>> 1) = s := by
  unfold L
  have hm : (s >>> 1).msb = false := by
    rw [BitVec.msb_eq_getLsbD_last]
    simp
  rw [hm]
  simp
  apply BitVec.eq_of_getLsbD_eq
  intro i hi
  simp
  cases i with
  | zero => simpa using h
  | succ i => 
    have : 1 + i = i + 1 := by omega
    simp [this]
    intro _
    omega

/-- What feeding up to 32 bits comes to. -/
theorem feed_pack (xs : List Bool) : ∀ s, xs.length ≤ 32 → feed s xs = Ln xs.length (s ^^^ pack xs) := by
  induction xs with
  | nil => intro s _; simp [feed, pack, Ln]
  | cons x xs ih =>
    intro s h
    simp only [List.length_cons] at h
    simp only [feed, List.length_cons, Ln, pack]
    rw [ih _ (by omega)]
    congr 1
    rw [← BitVec.xor_assoc, L_xor (s ^^^ top x), L_shift _ (pack_low xs 0 (by omega))]

theorem top_msb (x : Bool) : (top x).msb = x := by cases x <;> decide

theorem pack_inj (xs : List Bool) : ∀ ys, xs.length = ys.length → xs.length ≤ 32 → pack xs = pack ys → xs = ys := by
  induction xs with
  | nil => intro ys h _ _; cases ys with | nil => rfl | cons => simp at h
  | cons x xs ih =>
    intro ys h hl he
    cases ys with
    | nil => simp at h
    | cons y ys =>
      simp only [List.length_cons] at h hl
      simp only [pack] at he
      have hm := congrArg BitVec.msb he
      have hs : ∀ l, (pack l >>> 1).msb = false := by
        intro l; rw [BitVec.msb_eq_getLsbD_last]; simp
      simp only [BitVec.msb_xor, top_msb, hs, Bool.xor_false] at hm
      subst hm
      have he2 := congrArg (top x ^^^ ·) he
      simp only [← BitVec.xor_assoc, BitVec.xor_self, BitVec.zero_xor] at he2
      have he3 : pack xs = pack ys := by
        have := congrArg L he2
        rwa [L_shift _ (pack_low xs 0 (by omega)), L_shift _ (pack_low ys 0 (by omega))] at this
      rw [ih ys (by omega) (by omega) he3]

/-- Two rows of bits that differ within 32 in a row are told apart. -/
theorem feed_burst (s : BitVec 32) (pre a b post : List Bool) (h : a.length = b.length) (h32 : a.length ≤ 32)
    (he : feed s (pre ++ a ++ post) = feed s (pre ++ b ++ post)) : a = b := by
  rw [feed_append, feed_append, feed_append (pre ++ b), feed_append pre] at he
  have h1 := feed_inj post he
  rw [feed_pack a _ h32, feed_pack b _ (by omega), h] at h1
  have h2 := congrArg (feed s pre ^^^ ·) (Ln_inj _ h1)
  simp only [← BitVec.xor_assoc, BitVec.xor_self, BitVec.zero_xor] at h2
  exact pack_inj a b h h32 h2

end MathA
end

section
/-
  Plain mathematics of the sum of 32 bits, by bytes: what a table of the remainders of all bytes comes to.
-/
namespace MathA

/-- The bits of a byte, the highest first. -/
def bits8 (b : UInt8) : List Bool := (List.range 8).map fun i => b.toNat.testBit (7 - i)

/-- All bits of some bytes. -/
def bitsOf (l : List UInt8) : List Bool := l.flatMap bits8

/-- One byte, with the rest that there was. -/
def upd (r : BitVec 32) (b : UInt8) : BitVec 32 := Ln 8 (r ^^^ BitVec.ofNat 32 (b.toNat * 16777216))

/-- What is left of all bytes, beginning with all bits set. -/
def crc (l : List UInt8) : BitVec 32 := l.foldl upd 4294967295#32

/-- The sum. -/
def sum (l : List UInt8) : Nat := 4294967295 - (crc l).toNat

theorem sum_lt (l : List UInt8) : sum l < 4294967296 := by unfold sum; omega

theorem Ln_low (n : Nat) : ∀ s : BitVec 32, (∀ i, i < 32 → 32 - n ≤ i → s.getLsbD i = false) → Ln n s = s <<< n := by
  induction n with
  | zero => intro s _; simp [Ln]
  | succ n ih =>
    intro s h
    have hm : s.msb = false := by
      rw [BitVec.msb_eq_getLsbD_last]
      exact h 31 (by omega) (by omega)
    have hL : L s = s <<< 1 := by unfold L; simp [hm]
    simp only [Ln]
    rw [hL, ih]
    · rw [← BitVec.shiftLeft_add, Nat.add_comm]
    · intro i hi h2
      simp only [BitVec.getLsbD_shiftLeft]
      by_cases h0 : i < 1
      · simp [h0]
      · simp only [h (i - 1) (by omega) (by omega), Bool.and_false]

theorem split24 (r : BitVec 32) : r = (r &&& 16777215#32) ^^^ ((r >>> 24) <<< 24) := by
  apply BitVec.eq_of_getLsbD_eq
  intro i hi
  have h24 : (16777215#32 : BitVec 32).getLsbD i = decide (i < 24) := by
    have e : (16777215#32 : BitVec 32) = BitVec.ofNat 32 (2 ^ 24 - 1) := by decide
    rw [e, BitVec.getLsbD_ofNat, Nat.testBit_two_pow_sub_one]
    simp [hi]
  simp only [BitVec.getLsbD_xor, BitVec.getLsbD_and, h24, BitVec.getLsbD_shiftLeft, BitVec.getLsbD_ushiftRight]
  by_cases h : i < 24
  · simp [h]
  · have e : 24 + (i - 24) = i := by omega
    simp [h, hi, e]

theorem upd_split (r : BitVec 32) (b : UInt8) : upd r b = (r <<< 8) ^^^ Ln 8 (((r >>> 24) ^^^ BitVec.ofNat 32 b.toNat) <<< 24) := by
  unfold upd
  have hb : BitVec.ofNat 32 (b.toNat * 16777216) = (BitVec.ofNat 32 b.toNat) <<< 24 := by
    apply BitVec.eq_of_toNat_eq
    have := b.toNat_lt
    simp [Nat.shiftLeft_eq]
  have e1 : r ^^^ BitVec.ofNat 32 (b.toNat * 16777216) = (r &&& 16777215#32) ^^^ (((r >>> 24) ^^^ BitVec.ofNat 32 b.toNat) <<< 24) := by
    rw [hb, BitVec.shiftLeft_xor_distrib, ← BitVec.xor_assoc, ← split24]
  rw [e1, Ln_xor, Ln_low 8 (r &&& 16777215#32)]
  · congr 1
    apply BitVec.eq_of_getLsbD_eq
    intro i hi
    have h24 : ∀ j, j < 32 → (16777215#32 : BitVec 32).getLsbD j = decide (j < 24) := by
      intro j hj
      have e : (16777215#32 : BitVec 32) = BitVec.ofNat 32 (2 ^ 24 - 1) := by decide
      rw [e, BitVec.getLsbD_ofNat, Nat.testBit_two_pow_sub_one]
      simp [hj]
    simp only [BitVec.getLsbD_shiftLeft, BitVec.getLsbD_and]
    by_cases h8 : i < 8
    · simp [h8]
    · rw [h24 (i - 8) (by omega)]
      have : i - 8 < 24 := by omega
      simp [this]
  · intro i hi h2
    have e : (16777215#32 : BitVec 32) = BitVec.ofNat 32 (2 ^ 24 - 1) := by decide
    rw [BitVec.getLsbD_and, e, BitVec.getLsbD_ofNat, Nat.testBit_two_pow_sub_one]
    have : ¬ i < 24 := by omega
    simp [this]

/-- As numbers. -/
theorem upd_nat (r : BitVec 32) (b : UInt8) :
    ((r.toNat * 256 % 4294967296) ^^^ (Ln 8 (BitVec.ofNat 32 (((r.toNat / 16777216) ^^^ b.toNat) * 16777216))).toNat) = (upd r b).toNat := by
  have hr := r.isLt
  have hb := b.toNat_lt
  have e2 : BitVec.ofNat 32 (((r.toNat / 16777216) ^^^ b.toNat) * 16777216) = ((r >>> 24) ^^^ BitVec.ofNat 32 b.toNat) <<< 24 := by
    apply BitVec.eq_of_toNat_eq
    simp only [BitVec.toNat_shiftLeft, BitVec.toNat_ofNat, BitVec.toNat_xor, BitVec.toNat_ushiftRight, Nat.shiftLeft_eq, Nat.shiftRight_eq_div_pow]
    have e : b.toNat % 2 ^ 32 = b.toNat := by omega
    rw [e]
  rw [upd_split, BitVec.toNat_xor, BitVec.toNat_shiftLeft, Nat.shiftLeft_eq, e2]

theorem feed_bits8 (s : BitVec 32) (b : UInt8) : feed s (bits8 b) = upd s b := by
  rw [feed_pack]
  · unfold upd
    have hl : (bits8 b).length = 8 := by simp [bits8]
    rw [hl]
    congr 2
    have h : ∀ n, n < 256 → pack ((List.range 8).map fun i => n.testBit (7 - i)) = BitVec.ofNat 32 (n * 16777216) := by decide +kernel
    exact h _ b.toNat_lt
  · simp [bits8]

theorem feed_bitsOf (l : List UInt8) : ∀ s, feed s (bitsOf l) = l.foldl upd s := by
  induction l with
  | nil => intro s; rfl
  | cons b l ih =>
    intro s
    simp only [bitsOf, List.flatMap_cons, List.foldl_cons]
    rw [feed_append, feed_bits8]
    exact ih _

theorem crc_feed (l : List UInt8) : crc l = feed 4294967295#32 (bitsOf l) := (feed_bitsOf l _).symm

end MathA
end

section
/-
  The walks of the small functions of package crc: remainder.
-/
open Go.RowKit

theorem msb_nat (s : BitVec 32) : s.msb = decide (s.toNat / 2147483648 = 1) := by
  have hs := s.isLt
  rw [BitVec.msb_eq_decide]
  by_cases h : s.toNat / 2147483648 = 1
  · simp [h]; omega
  · simp [h]; omega

theorem shl1_nat (s : BitVec 32) : (s <<< 1).toNat = s.toNat * 2 % 4294967296 := by
  rw [BitVec.toNat_shiftLeft, Nat.shiftLeft_eq]

theorem L_hi (s : BitVec 32) (h : ((s.toNat : Int) / 2147483648 == 1) = true) :
    bits BinOp.xor IntKind.u32 ((s.toNat : Int) * 2 % 4294967296) 79764919 = ((MathA.L s).toNat : Int) := by
  have hs := s.isLt
  have h1 : s.toNat / 2147483648 = 1 := by simp at h; omega
  have e := u32_xor_nat (s.toNat * 2 % 4294967296) 79764919 (by omega) (by omega)
  have e2 : (((s.toNat * 2 % 4294967296 : Nat) : Int)) = (s.toNat : Int) * 2 % 4294967296 := by omega
  rw [e2] at e
  refine Eq.trans e ?_
  unfold MathA.L
  rw [msb_nat]
  simp only [h1, decide_true, if_true, BitVec.toNat_xor, shl1_nat]
  rfl

theorem L_lo (s : BitVec 32) (h : ((s.toNat : Int) / 2147483648 == 1) = false) :
    (s.toNat : Int) * 2 % 4294967296 = ((MathA.L s).toNat : Int) := by
  have hs := s.isLt
  have h1 : ¬ s.toNat / 2147483648 = 1 := by simp at h; omega
  unfold MathA.L
  rw [msb_nat]
  simp only [h1, decide_false, Bool.false_eq_true, if_false, BitVec.xor_zero, shl1_nat]
  omega

theorem Ln_step {k : Nat} {s t : BitVec 32} (hk : k < 8) (h : MathA.Ln (8 - k) s = t) : MathA.Ln (8 - (k + 1)) (MathA.L s) = t := by
  have e : 8 - k = (8 - (k + 1)) + 1 := by omega
  rw [e] at h
  exact h

set_option maxHeartbeats 400000 in
theorem remainder_any (b : Nat) (hb : b < 256) (w : World) :
    Calls Tryz.prog 71 #[.int .u8 b] w fun e w' => e = .returned (.int .u32 (MathA.Ln 8 (BitVec.ofNat 32 (b * 16777216))).toNat) ∧ w' = w := by
  go_enter Tryz.func71, Tryz.ntmps71
  go_wp2
  go_loop [3, 7] (fun x i => ∃ (k : Nat) (s : BitVec 32), k ≤ 8 ∧ i = .int .i64 k ∧ x = .int .u32 s.toNat ∧ MathA.Ln (8 - k) s = MathA.Ln 8 (BitVec.ofNat 32 (b * 16777216))) (fun _ i => 8 - (intOf i).toNat)
  case atStart => 
    refine ⟨0, BitVec.ofNat 32 (b * 16777216), by omega, rfl, int_val ?_, rfl⟩
    simp; omega
  case round =>
    obtain ⟨k, s, hk, rfl, rfl, he⟩ := hrel
    have H : Hid (MathA.Ln (8 - k) s = MathA.Ln 8 (BitVec.ofNat 32 (b * 16777216))) := he
    clear he
    have hs := s.isLt
    go_wp2
    · go_round
      case rel => exact ⟨k + 1, MathA.L s, by omega, by go_num, int_val (L_hi s (by assumption)), Ln_step (by omega) H.out⟩
      case measure => simp [intOf]; omega
    · go_round
      case rel => exact ⟨k + 1, MathA.L s, by omega, by go_num, int_val (L_lo s (by assumption)), Ln_step (by omega) H.out⟩
      case measure => simp [intOf]; omega
    · have hk8 : k = 8 := by omega
      subst hk8
      go_ret
      exact ⟨by rw [← H.out]; rfl, rfl⟩

end

section
/-
  The table of the remainders of all bytes, as crc.New lays it.
-/
open Go.RowKit

/-- The remainder of one byte with 32 noughts behind it. -/
def rem8 (i : Nat) : Nat := (MathA.Ln 8 (BitVec.ofNat 32 (i * 16777216))).toNat

/-- The table, its first k cells filled. -/
def tab (k : Nat) : Array Value := (Array.range 256).map fun i => .int .u32 (if i < k then (rem8 i : Int) else 0)


theorem zeroT (w : World) : Sem.run Tryz.prog (zeroValue 145) w = .ok (.agg (tab 0)) w := by kernel_rfl

end

section
/-
  The walk of crc.New: a new block that holds the remainders of all bytes.
-/
open Go.RowKit

theorem wrap_u8_lt (k : Nat) (h : k < 256) : IntKind.u8.wrap (k : Int) = (k : Int) := by rw [IntKind.wrap_u8']; omega

theorem tab_step (k : Nat) : (tab k).setIfInBounds k (.int .u32 (rem8 k)) = tab (k + 1) := by
  apply Array.ext
  · simp [tab]
  · intro i h1 h2
    have hi : i < 256 := by simpa [tab] using h2
    rw [Array.getElem_setIfInBounds (by simpa using h1)]
    by_cases e : k = i
    · subst e
      simp [tab]
    · rw [if_neg e]
      simp only [tab, Array.getElem_map, Array.getElem_range]
      by_cases h3 : i < k
      · rw [if_pos h3, if_pos (by omega)]
      · rw [if_neg h3, if_neg (by omega)]

theorem tab_set (w : World) (k n : Nat) : ((w.alloc (Obj.cells (tab k) 145)).drewN (n + 1)).setCell { block := w.heap.size, off := k } (Value.int IntKind.u32 ↑(MathA.Ln 8 (BitVec.ofNat 32 (k * 16777216))).toNat) = (w.alloc (Obj.cells (tab (k + 1)) 145)).drewN (n + 1) := by
  rw [← tab_step k]
  show ((w.alloc (Obj.cells (tab k) 145)).setCell { block := w.heap.size, off := k } (.int .u32 (rem8 k))).drewN (n + 1) = _
  rw [World.setCell_alloc_new]

set_option maxRecDepth 100000 in
set_option maxHeartbeats 400000 in
theorem new_any (w : World) :
    Calls Tryz.prog 46 #[] w fun e w' => e = .returned (.pointer (some ⟨w.heap.size, 0, none⟩)) ∧ ∃ n, w' = (w.alloc (.cells (tab 256) 145)).drewN n := by
  have hz := zeroT
  go_enter Tryz.func46, Tryz.ntmps46
  go_wp2
  clear hz
  go_loopw [5] (fun i wr => ∃ k n : Nat, k ≤ 256 ∧ i = .int .i64 k ∧ wr = (w.alloc (.cells (tab k) 145)).drewN n) (fun i _ => 256 - (intOf i).toNat)
  case atStart => exact ⟨0, 0, by omega, rfl, rfl⟩
  case round =>
    obtain ⟨k, n, hk, rfl, rfl⟩ := hrel
    by_cases hlt : k < 256
    · have hsz : k < (tab k).size := by simp [tab]; omega
      go_wp2
      go_region_with (go_at_call 71; rw [wrap_u8_lt k hlt]; refine (remainder_any k hlt _).mono ?_; rintro e w' ⟨rfl, rfl⟩)
      go_wp2
      go_roundw
      case rel => exact ⟨k + 1, n + 1, by omega, by go_num, tab_set w k n⟩
      case measure => simp [intOf]; omega
    · go_wp2
      go_ret
      have : k = 256 := by omega
      subst this
      exact ⟨rfl, n, rfl⟩

end

section
/-
  The walk of (*crc.Table).Sum: over a table, and any parts.
-/
open Go.RowKit
set_option linter.unusedVariables false

/-- The table lies in block g. -/
def IsTab (w : World) (g : Nat) : Prop := ∀ i, i < 256 → w.cell? ⟨g, i, none⟩ = some (.int .u32 (rem8 i))

theorem upd_index (t : BitVec 32) (y : UInt8) : ∃ x : Nat, bits BinOp.xor IntKind.u8 ((t.toNat : Int) / 16777216) (y.toNat : Int) = (x : Int) ∧ x < 256 ∧
    bits BinOp.xor IntKind.u32 ((t.toNat : Int) * 256 % 4294967296) (rem8 x : Int) = ((MathA.upd t y).toNat : Int) := by
  have ht := t.isLt
  have hy := y.toNat_lt
  have hx : (t.toNat / 16777216) ^^^ y.toNat < 2 ^ 8 := Nat.xor_lt_two_pow (by omega) (by omega)
  refine ⟨(t.toNat / 16777216) ^^^ y.toNat, ?_, by omega, ?_⟩
  · have e := u8_xor_nat (t.toNat / 16777216) y.toNat (by omega) (by omega)
    have e2 : (((t.toNat / 16777216 : Nat) : Int)) = (t.toNat : Int) / 16777216 := by omega
    rw [e2] at e
    exact e
  · have hr : rem8 ((t.toNat / 16777216) ^^^ y.toNat) < 4294967296 := (MathA.Ln 8 _).isLt
    have e := u32_xor_nat (t.toNat * 256 % 4294967296) (rem8 ((t.toNat / 16777216) ^^^ y.toNat)) (by omega) hr
    have e2 : (((t.toNat * 256 % 4294967296 : Nat) : Int)) = (t.toNat : Int) * 256 % 4294967296 := by omega
    rw [e2] at e
    rw [e]
    exact congrArg Int.ofNat (MathA.upd_nat t y)

theorem upd_next {p : List UInt8} {j : Nat} {s t : BitVec 32} {y : UInt8} (hj : j < p.length) (hy : p[j] = y) (h : t = (p.take j).foldl MathA.upd s) : MathA.upd t y = (p.take (j + 1)).foldl MathA.upd s := by
  rw [List.take_succ_eq_append_getElem hj, List.foldl_append, ← h, ← hy]
  rfl

theorem part_none {ps : List (List UInt8)} {k : Nat} {s : BitVec 32} (hk : k < ps.length) (h0 : ps[k].length = 0) (h : s = MathA.crc (ps.take k).flatten) : s = MathA.crc (ps.take (k + 1)).flatten := by
  rw [List.take_succ_eq_append_getElem hk, List.flatten_append, List.eq_nil_of_length_eq_zero h0]
  simpa using h

theorem part_next {ps : List (List UInt8)} {k j : Nat} {s t : BitVec 32} (hk : k < ps.length) (hj : ps[k].length ≤ j) (h : s = MathA.crc (ps.take k).flatten) (h2 : t = (ps[k].take j).foldl MathA.upd s) : t = MathA.crc (ps.take (k + 1)).flatten := by
  rw [List.take_succ_eq_append_getElem hk, List.flatten_append, h2, List.take_of_length_le hj, h]
  simp [MathA.crc, List.foldl_append]

theorem not_nat (s : BitVec 32) : bits BinOp.xor IntKind.u32 IntKind.u32.max (s.toNat : Int) = ((4294967295 - s.toNat : Nat) : Int) := by
  have e := u32_xor_nat 4294967295 s.toNat (by omega) s.isLt
  have e2 : (4294967295 ^^^ s.toNat) = 4294967295 - s.toNat := by
    have h : (BitVec.allOnes 32 ^^^ s).toNat = (~~~s).toNat := by rw [BitVec.allOnes_xor]
    rw [BitVec.toNat_xor, BitVec.toNat_not, BitVec.toNat_allOnes] at h
    exact h
  rw [e2] at e
  exact e

end

section
/-
  The walks of crc.number, (*crc.Table).Seal and (*crc.Table).Right.
-/
open Go.RowKit
set_option linter.unusedVariables false

/-- Bytes as a number of 32 bits, the highest first. -/
def num32 (l : List UInt8) : Nat := l.foldl (fun n x => (n * 256 + x.toNat) % 4294967296) 0

theorem num32_lt (l : List UInt8) : num32 l < 4294967296 := by
  unfold num32
  suffices h : ∀ n, n < 4294967296 → l.foldl (fun n x => (n * 256 + x.toNat) % 4294967296) n < 4294967296 from h 0 (by omega)
  induction l with
  | nil => intro n h; exact h
  | cons x l ih => intro n h; exact ih _ (Nat.mod_lt _ (by omega))

theorem num32_next {l : List UInt8} {j : Nat} {m : Nat} {y : UInt8} (hj : j < l.length) (hy : l[j] = y) (h : m = num32 (l.take j)) : (m * 256 + y.toNat) % 4294967296 = num32 (l.take (j + 1)) := by
  rw [List.take_succ_eq_append_getElem hj, num32, List.foldl_append, hy, h]
  rfl

theorem or_nat (m : Nat) (y : UInt8) (hm : m < 4294967296) : bits BinOp.or IntKind.u32 ((m : Int) * 256 % 4294967296) (y.toNat : Int) = (((m * 256 + y.toNat) % 4294967296 : Nat) : Int) := by
  have hy := y.toNat_lt
  have e := u32_or_nat (m * 256 % 4294967296) y.toNat (by omega) (by omega)
  have e2 : (((m * 256 % 4294967296 : Nat) : Int)) = (m : Int) * 256 % 4294967296 := by omega
  have e3 := nat_join 8 (m * 256 % 4294967296) y.toNat (by omega) (by omega)
  rw [e2, e3] at e
  rw [e]
  omega

theorem Bs.src {w : World} {ao : Option Addr} {n cap : Nat} {l : List UInt8} (h : Bs w (.slice ao n cap) l) :
    n = l.length ∧ (ao = none → n = 0 ∧ cap = 0) ∧ (∀ ad, ao = some ad → ∀ j u, (l.map bv)[j]? = some u → w.cell? (ad.add j) = some u) := by
  obtain ⟨h1, ao', cap', hv, h2, h3, h4, h5⟩ := h
  injection hv with e1 e2 e3
  subst e1; subst e2; subst e3
  refine ⟨rfl, fun e => ⟨by have := h4 e; omega, h4 e⟩, ?_⟩
  intro ad had j u hj
  have hjl := (List.getElem?_eq_some_iff.1 hj).1
  rcases h5 with h0 | ⟨b, off, hao, hc⟩
  · simp at hjl; omega
  · rw [hao] at had
    obtain rfl := Option.some.inj had
    rw [Addr.add_lit]
    exact hc j u hj

theorem Tryz.info5 : (Tryz.prog.info? 5).map (fun i => (i.zero, i.size, i.bytes)) = some (some (.int .u8 0), 1, 1) := by kernel_rfl

/-- A number of 32 bits as four bytes, the highest first. -/
def be4 (n : Nat) : List UInt8 := [UInt8.ofNat (n / 16777216), UInt8.ofNat (n / 65536), UInt8.ofNat (n / 256), UInt8.ofNat n]

def be4v (n : Nat) : List Value := [.int .u8 ((n : Int) / 16777216 % 256), .int .u8 ((n : Int) / 65536 % 256), .int .u8 ((n : Int) / 256 % 256), .int .u8 ((n : Int) % 256)]

theorem be4_cells (n : Nat) : be4v n = (be4 n).map bv := by
  simp [be4, be4v, bv]

theorem be4v_at (w : World) (n : Nat) : ∀ j u, (be4v n)[j]? = some u → (w.alloc (.cells #[.int .u8 ((n : Int) / 16777216 % 256), .int .u8 ((n : Int) / 65536 % 256), .int .u8 ((n : Int) / 256 % 256), .int .u8 ((n : Int) % 256)] 5)).cell? ((⟨w.heap.size, 0, none⟩ : Addr).add j) = some u := by
  intro j u hj
  rw [Addr.add_lit]
  simp only [Nat.zero_add]
  have : (w.alloc (.cells #[.int .u8 ((n : Int) / 16777216 % 256), .int .u8 ((n : Int) / 65536 % 256), .int .u8 ((n : Int) / 256 % 256), .int .u8 ((n : Int) % 256)] 5)).cell? ⟨w.heap.size, j, none⟩ = (be4v n)[j]? := by
    rw [World.cell?_alloc_new]
    simp [be4v]
  rw [this, hj]

theorem IsTab.below {w w' : World} {g : Nat} (h : IsTab w g) (hb : Below w.heap.size w w') : IsTab w' g :=
  fun i hi => (hb.cell (cell_block_lt (h i hi))).trans (h i hi)

theorem ret_beq (A B : Nat) : Ending.returned (.bool ((A : Int) == (B : Int))) = .returned (.bool (A == B)) := by
  have h : ((A : Int) == (B : Int)) = (A == B) := by
    rw [Bool.eq_iff_iff]
    simp
    omega
  rw [h]

/-- Are bytes others with their sum behind them? -/
def rightB (l : List UInt8) : Bool := decide (4 ≤ l.length) && (num32 (l.drop (l.length - 4)) == MathA.sum (l.take (l.length - 4)))

end

section
/-
  A new table; a literal's bytes.
-/
open Go.RowKit
set_option linter.unusedVariables false

theorem tab_at (i : Nat) (h : i < 256) : (tab 256)[i]? = some (.int .u32 (rem8 i)) := by
  simp [tab, h]

/-- NEW: a new table; nothing old is turned. -/
theorem new_c (w : World) : Calls Tryz.prog 46 #[] w fun e w' => e = .returned (.pointer (some ⟨w.heap.size, 0, none⟩)) ∧ IsTab w' w.heap.size ∧ Below w.heap.size w w' ∧ w'.heap.size = w.heap.size + 1 := by
  refine (new_any w).mono ?_
  rintro e w' ⟨rfl, n, rfl⟩
  refine ⟨rfl, ?_, below_drewN ((Below.refl _ _).alloc (Nat.le_refl _) _) n, by simp⟩
  intro i hi
  rw [World.cell?_drewN, World.cell?_alloc_new]
  exact tab_at i hi

theorem conv_const (w : World) (C : Array Value) (n c b : Nat) (hb : b = w.heap.size) :
    (convert 25 25 (.slice (some ⟨b, 0, none⟩) n c)).run Tryz.prog (w.alloc (.cells C 5)) = .ok (.slice (some ⟨b, 0, none⟩) n c) (w.alloc (.cells C 5 (C.size, C.size + 1))) := by
  subst hb
  exact Lib.run_convert_bytes_const (P := Tryz.prog) w 25 5 C n c Tryz.underlying25 Tryz.underlying5

end

section
/-
  Plain mathematics of the sum of 32 bits: what is sealed.
-/
namespace MathA
set_option linter.unusedVariables false

theorem length_bitsOf (l : List UInt8) : (bitsOf l).length = 8 * l.length := by
  induction l with
  | nil => rfl
  | cons b l ih => simp only [bitsOf, List.flatMap_cons, List.length_append, List.length_cons] at ih ⊢; rw [ih]; simp [bits8]; omega

theorem pack_append (a b : List Bool) : pack (a ++ b) = pack a ^^^ (pack b >>> a.length) := by
  induction a with
  | nil => simp [pack]
  | cons x a ih =>
    simp only [List.cons_append, pack, List.length_cons, ih]
    rw [BitVec.ushiftRight_xor_distrib, ← BitVec.shiftRight_add, BitVec.xor_assoc]

theorem pack_bits8 (b : UInt8) : pack (bits8 b) = BitVec.ofNat 32 (b.toNat * 16777216) := by
  have h : ∀ n, n < 256 → pack ((List.range 8).map fun i => n.testBit (7 - i)) = BitVec.ofNat 32 (n * 16777216) := by decide +kernel
  exact h _ b.toNat_lt

/-- The four bytes of a number are its bits. -/
theorem pack_be4 (n : Nat) (hn : n < 4294967296) : pack (bitsOf (be4 n)) = BitVec.ofNat 32 n := by
  have hl : ∀ b, (bits8 b).length = 8 := by intro b; simp [bits8]
  have e : bitsOf (be4 n) = bits8 (UInt8.ofNat (n / 16777216)) ++ (bits8 (UInt8.ofNat (n / 65536)) ++ (bits8 (UInt8.ofNat (n / 256)) ++ bits8 (UInt8.ofNat n))) := by
    simp [bitsOf, be4]
  rw [e, pack_append, pack_append, pack_append, hl, hl, hl, pack_bits8, pack_bits8, pack_bits8, pack_bits8]
  simp only [BitVec.ushiftRight_xor_distrib]
  apply BitVec.eq_of_getLsbD_eq
  intro i hi
  simp only [BitVec.getLsbD_xor, BitVec.getLsbD_ushiftRight, BitVec.getLsbD_ofNat]
  have ht : ∀ m k : Nat, ((UInt8.ofNat m).toNat * 16777216).testBit k = (decide (24 ≤ k) && decide (k < 32) && m.testBit (k - 24)) := by
    intro m k
    rw [show (16777216 : Nat) = 2 ^ 24 by decide, Nat.testBit_mul_two_pow]
    simp only [UInt8.toNat_ofNat']
    rw [show (2 : Nat) ^ 8 = 2 ^ 8 by rfl, Nat.testBit_mod_two_pow]
    by_cases h1 : 24 ≤ k
    · by_cases h2 : k < 32
      · have : k - 24 < 8 := by omega
        simp [h1, h2, this]
      · have : ¬ k - 24 < 8 := by omega
        simp [h1, h2, this]
    · simp [h1]
  have hd : ∀ m k j : Nat, (m / 2 ^ k).testBit j = m.testBit (k + j) := by
    intro m k j
    rw [Nat.testBit_div_two_pow, Nat.add_comm]
  simp only [ht, hi, decide_true, Bool.true_and]
  rw [show (16777216 : Nat) = 2 ^ 24 by decide, show (65536 : Nat) = 2 ^ 16 by decide, show (256 : Nat) = 2 ^ 8 by decide]
  simp only [hd]
  by_cases h1 : 24 ≤ i
  · have a1 : 24 + (i - 24) = i := by omega
    have a2 : ¬ 8 + i < 32 := by omega
    have a3 : ¬ 8 + (8 + i) < 32 := by omega
    have a4 : ¬ 8 + (8 + (8 + i)) < 32 := by omega
    simp [h1, a1, a2, a3, a4]
  · by_cases h2 : 16 ≤ i
    · have a1 : 16 + (8 + i - 24) = i := by omega
      have a0 : 24 ≤ 8 + i := by omega
      have a2 : 8 + i < 32 := by omega
      have a3 : ¬ 8 + (8 + i) < 32 := by omega
      have a4 : ¬ 8 + (8 + (8 + i)) < 32 := by omega
      simp [h1, a0, a1, a2, a3, a4]
    · by_cases h3 : 8 ≤ i
      · have a1 : 8 + (8 + (8 + i) - 24) = i := by omega
        have a0 : ¬ 24 ≤ 8 + i := by omega
        have a2 : 24 ≤ 8 + (8 + i) := by omega
        have a3 : 8 + (8 + i) < 32 := by omega
        have a4 : ¬ 8 + (8 + (8 + i)) < 32 := by omega
        simp [h1, a0, a1, a2, a3, a4]
      · have a1 : 8 + (8 + (8 + i)) - 24 = i := by omega
        have a0 : ¬ 24 ≤ 8 + i := by omega
        have a2 : ¬ 24 ≤ 8 + (8 + i) := by omega
        have a3 : 24 ≤ 8 + (8 + (8 + i)) := by omega
        have a4 : 8 + (8 + (8 + i)) < 32 := by omega
        simp [h1, a0, a1, a2, a3, a4]

theorem be4_num32 (l : List UInt8) (h : l.length = 4) : be4 (num32 l) = l := by
  match l, h with
  | [a, b, c, d], _ =>
    have ha := a.toNat_lt
    have hb := b.toNat_lt
    have hc := c.toNat_lt
    have hd := d.toNat_lt
    have e : num32 [a, b, c, d] = ((a.toNat * 256 + b.toNat) * 256 + c.toNat) * 256 + d.toNat := by
      simp only [num32, List.foldl_cons, List.foldl_nil]
      omega
    rw [e]
    simp only [be4, List.cons.injEq, and_true]
    refine ⟨?_, ?_, ?_, ?_⟩ <;> (apply UInt8.toNat_inj.1; simp only [UInt8.toNat_ofNat']; omega)

/-- What all that is sealed comes to. -/
def goal : BitVec 32 := Ln 32 4294967295#32

theorem feed_sum (r : BitVec 32) : feed r (bitsOf (be4 (4294967295 - r.toNat))) = goal := by
  rw [feed_pack _ _ (by rw [length_bitsOf]; simp [be4]), length_bitsOf]
  have hr := r.isLt
  rw [pack_be4 _ (by omega)]
  have e : BitVec.ofNat 32 (4294967295 - r.toNat) = ~~~r := by
    apply BitVec.eq_of_toNat_eq
    rw [BitVec.toNat_not]
    simp
    omega
  rw [e]
  have e2 : r ^^^ ~~~r = 4294967295#32 := by
    rw [← BitVec.allOnes_xor, BitVec.xor_comm (BitVec.allOnes 32), ← BitVec.xor_assoc, BitVec.xor_self, BitVec.zero_xor]
    rfl
  rw [e2]
  rfl

/-- What is sealed comes to one number. -/
theorem crc_sealed (l : List UInt8) : crc (l ++ be4 (sum l)) = goal := by
  rw [crc_feed]
  have e : bitsOf (l ++ be4 (sum l)) = bitsOf l ++ bitsOf (be4 (sum l)) := by simp [bitsOf]
  rw [e, feed_append, ← crc_feed]
  exact feed_sum _

/-- Bytes whose sum is right come to that number, and no others. -/
theorem rightB_iff (l : List UInt8) : rightB l = true ↔ 4 ≤ l.length ∧ crc l = goal := by
  unfold rightB
  simp only [Bool.and_eq_true, decide_eq_true_eq, beq_iff_eq]
  refine and_congr_right fun h4 => ?_
  have hsplit : l = l.take (l.length - 4) ++ l.drop (l.length - 4) := (List.take_append_drop _ _).symm
  have hd : (l.drop (l.length - 4)).length = 4 := by simp; omega
  constructor
  · intro h
    rw [hsplit, ← be4_num32 _ hd, h]
    exact crc_sealed _
  · intro h
    have hs := crc_sealed (l.take (l.length - 4))
    rw [← h] at hs
    have e : crc l = crc (l.take (l.length - 4) ++ l.drop (l.length - 4)) := by rw [← hsplit]
    rw [e, crc_feed, crc_feed] at hs
    have eb : ∀ a b : List UInt8, bitsOf (a ++ b) = bitsOf a ++ bitsOf b := by intro a b; simp [bitsOf]
    have h1 := feed_burst 4294967295#32 (bitsOf (l.take (l.length - 4))) (bitsOf (be4 (sum (l.take (l.length - 4))))) (bitsOf (l.drop (l.length - 4))) [] (by rw [length_bitsOf, length_bitsOf, hd]; rfl) (by rw [length_bitsOf]; simp [be4]) (by rw [← eb, ← eb, List.append_nil, List.append_nil]; exact hs)
    have h2 := congrArg pack h1
    rw [← be4_num32 _ hd, pack_be4 _ (sum_lt _), pack_be4 _ (num32_lt _)] at h2
    have h3 := congrArg BitVec.toNat h2
    rw [BitVec.toNat_ofNat, BitVec.toNat_ofNat, Nat.mod_eq_of_lt (sum_lt _), Nat.mod_eq_of_lt (num32_lt _)] at h3
    exact h3.symm

theorem right_sealed (l : List UInt8) : rightB (l ++ be4 (sum l)) = true := by
  rw [rightB_iff]
  exact ⟨by simp [be4], crc_sealed l⟩

end MathA
end

section
/-
  Plain mathematics: bits that are turned within 32 in a row.
-/
namespace MathA
set_option linter.unusedVariables false

theorem bits8_at (b : UInt8) (i : Nat) (h : i < 8) : (bits8 b)[i]? = some (b.toNat.testBit (7 - i)) := by
  simp [bits8, h]

theorem bitsOf_at (l : List UInt8) : ∀ i, (bitsOf l)[i]? = l[i / 8]?.map fun b => b.toNat.testBit (7 - i % 8) := by
  induction l with
  | nil => intro i; simp [bitsOf]
  | cons b l ih =>
    intro i
    have e : bitsOf (b :: l) = bits8 b ++ bitsOf l := by simp [bitsOf]
    have hl : (bits8 b).length = 8 := by simp [bits8]
    rw [e]
    by_cases h : i < 8
    · rw [List.getElem?_append_left (by omega), bits8_at b i h]
      have e1 : i / 8 = 0 := by omega
      have e2 : i % 8 = i := by omega
      rw [e1, e2]
      rfl
    · rw [List.getElem?_append_right (by omega), ih, hl]
      have e1 : i / 8 = (i - 8) / 8 + 1 := by omega
      have e2 : (i - 8) % 8 = i % 8 := by omega
      rw [e1, e2, List.getElem?_cons_succ]

theorem byte_of_bits (a b : UInt8) (h : ∀ i, i < 8 → a.toNat.testBit (7 - i) = b.toNat.testBit (7 - i)) : a = b := by
  apply UInt8.toNat_inj.1
  apply Nat.eq_of_testBit_eq
  intro i
  by_cases hi : i < 8
  · have := h (7 - i) (by omega)
    rwa [show 7 - (7 - i) = i by omega] at this
  · have ha := a.toNat_lt
    have hb := b.toNat_lt
    have h8 : 2 ^ 8 ≤ 2 ^ i := Nat.pow_le_pow_right (by omega) (by omega)
    rw [Nat.testBit_lt_two_pow (by omega), Nat.testBit_lt_two_pow (by omega)]

theorem bitsOf_inj (a b : List UInt8) (h : bitsOf a = bitsOf b) : a = b := by
  have hl : a.length = b.length := by
    have := congrArg List.length h
    rw [length_bitsOf, length_bitsOf] at this
    omega
  apply List.ext_getElem hl
  intro i h1 h2
  apply byte_of_bits
  intro j hj
  have e := congrArg (fun l : List Bool => l[8 * i + j]?) h
  simp only [bitsOf_at] at e
  have e1 : (8 * i + j) / 8 = i := by omega
  have e2 : (8 * i + j) % 8 = j := by omega
  rw [e1, e2, List.getElem?_eq_getElem h1, List.getElem?_eq_getElem h2] at e
  simpa using e

/-- A byte with one of its bits turned, the highest one being bit 0. -/
def turn8 (b : UInt8) (k : Nat) : UInt8 := UInt8.ofNat (b.toNat ^^^ (128 / 2 ^ k))

theorem turn8_bit (b : UInt8) (k i : Nat) (hk : k < 8) (hi : i < 8) (h : i ≠ k) : (turn8 b k).toNat.testBit (7 - i) = b.toNat.testBit (7 - i) := by
  have hb := b.toNat_lt
  have e : (turn8 b k).toNat = b.toNat ^^^ (128 / 2 ^ k) := by
    unfold turn8
    have h2 : 128 / 2 ^ k < 2 ^ 8 := Nat.lt_of_le_of_lt (Nat.div_le_self _ _) (by omega)
    have := Nat.xor_lt_two_pow hb h2
    simp only [UInt8.toNat_ofNat']
    exact Nat.mod_eq_of_lt this
  rw [e, Nat.testBit_xor]
  have : (128 / 2 ^ k).testBit (7 - i) = false := by
    have h' : ∀ k, k < 8 → ∀ i, i < 8 → i ≠ k → (128 / 2 ^ k).testBit (7 - i) = false := by decide
    exact h' k hk i hi h
  rw [this, Bool.xor_false]

/-- Bytes with bit k turned, where there is one. -/
def turn (l : List UInt8) (k : Nat) : List UInt8 := l.set (k / 8) (turn8 (l.getD (k / 8) 0) (k % 8))

theorem turn_length (l : List UInt8) (k : Nat) : (turn l k).length = l.length := by simp [turn]

theorem turn_bit (l : List UInt8) (k i : Nat) (h : i ≠ k) : (bitsOf (turn l k))[i]? = (bitsOf l)[i]? := by
  rw [bitsOf_at, bitsOf_at, turn]
  by_cases e : i / 8 = k / 8
  · rw [e, List.getElem?_set_self']
    cases hl : l[k / 8]? with
    | none => simp
    | some b =>
      simp only [List.getD, hl, Option.map_some, Option.getD_some]
      show some ((turn8 b (k % 8)).toNat.testBit (7 - i % 8)) = _
      rw [turn8_bit b (k % 8) (i % 8) (by omega) (by omega) (by omega)]
  · rw [List.getElem?_set_ne (by omega)]

/-- Bits 'first', 'first + 1' .. are turned where the mask has a one. -/
def turns (l : List UInt8) (first mask : Nat) : Nat → List UInt8
  | 0 => l
  | i + 1 => if mask.testBit i && decide (first + i < 8 * l.length) then turn (turns l first mask i) (first + i) else turns l first mask i

theorem turns_length (l : List UInt8) (first mask i : Nat) : (turns l first mask i).length = l.length := by
  induction i with
  | zero => rfl
  | succ i ih =>
    simp only [turns]
    split
    · rw [turn_length, ih]
    · exact ih

theorem turns_bit (l : List UInt8) (first mask n i : Nat) (h : i < first ∨ first + n ≤ i) : (bitsOf (turns l first mask n))[i]? = (bitsOf l)[i]? := by
  induction n with
  | zero => rfl
  | succ n ih =>
    simp only [turns]
    split
    · rw [turn_bit _ _ _ (by omega)]
      exact ih (by omega)
    · exact ih (by omega)

/-- What is turned within 32 bits in a row is told, or is the same. -/
theorem turns_told (s : BitVec 32) (l : List UInt8) (first mask : Nat) (h : feed s (bitsOf (turns l first mask 32)) = feed s (bitsOf l)) : turns l first mask 32 = l := by
  apply bitsOf_inj
  have hlen : (bitsOf (turns l first mask 32)).length = (bitsOf l).length := by rw [length_bitsOf, length_bitsOf, turns_length]
  have hsame : ∀ i, i < first ∨ first + 32 ≤ i → (bitsOf (turns l first mask 32))[i]? = (bitsOf l)[i]? := fun i hi => turns_bit l first mask 32 i hi
  generalize bitsOf (turns l first mask 32) = a at *
  generalize bitsOf l = b at *
  have cut : ∀ x : List Bool, x = x.take first ++ (x.drop first).take 32 ++ x.drop (first + 32) := by
    intro x
    rw [List.append_assoc, show x.drop (first + 32) = (x.drop first).drop 32 by rw [List.drop_drop], List.take_append_drop, List.take_append_drop]
  have h1 : a.take first = b.take first := by
    apply List.ext_getElem?
    intro i
    rw [List.getElem?_take, List.getElem?_take]
    split
    · exact hsame i (.inl (by assumption))
    · rfl
  have h2 : a.drop (first + 32) = b.drop (first + 32) := by
    apply List.ext_getElem?
    intro i
    rw [List.getElem?_drop, List.getElem?_drop]
    exact hsame _ (.inr (by omega))
  rw [cut a, cut b] at h ⊢
  rw [h1, h2] at h ⊢
  have h3 := feed_burst s (b.take first) ((a.drop first).take 32) ((b.drop first).take 32) (b.drop (first + 32)) (by simp [hlen]) (by simp; omega) h
  rw [h3]

/-- Of bytes that are right, turned within 32 bits in a row, none but the same are right. -/
theorem turns_right (l : List UInt8) (first mask : Nat) : rightB (turns (l ++ be4 (sum l)) first mask 32) = decide (turns (l ++ be4 (sum l)) first mask 32 = l ++ be4 (sum l)) := by
  by_cases h : turns (l ++ be4 (sum l)) first mask 32 = l ++ be4 (sum l)
  · rw [h]
    simp [right_sealed l]
  · simp only [h, decide_false]
    cases hr : rightB (turns (l ++ be4 (sum l)) first mask 32) with
    | false => rfl
    | true =>
      exfalso
      apply h
      have hr2 := ((rightB_iff _).1 hr).2
      apply turns_told 4294967295#32
      rw [← crc_feed, ← crc_feed, hr2, crc_sealed]

/-- Two rows of bytes that differ within 32 bits in a row have unlike sums. -/
theorem turns_sum (l : List UInt8) (first mask : Nat) : (sum (turns l first mask 32) = sum l) ↔ turns l first mask 32 = l := by
  constructor
  · intro h
    apply turns_told 4294967295#32
    rw [← crc_feed, ← crc_feed]
    apply BitVec.eq_of_toNat_eq
    have h1 := (crc (turns l first mask 32)).isLt
    have h2 := (crc l).isLt
    unfold sum at h
    omega
  · intro h
    rw [h]

end MathA
end

section
/-
  Plain mathematics: the sum, bit by bit, by a long division.
-/
namespace MathA
set_option linter.unusedVariables false

def low (b : Bool) : BitVec 32 := if b then 1#32 else 0#32

/-- One bit more, at the low end. -/
def push (r : BitVec 32) (b : Bool) : BitVec 32 := L r ^^^ low b

theorem top_shift (b : Bool) : top b >>> 31 = low b := by cases b <;> decide

theorem push_window (s : BitVec 32) (x : Bool) (rest : List Bool) (hr : rest.length = 31) (b : Bool) :
    push (s ^^^ pack (x :: rest)) b = L (s ^^^ top x) ^^^ pack (rest ++ [b]) := by
  unfold push
  rw [pack_append, hr]
  have e : pack [b] = top b := by simp [pack]
  rw [e, top_shift]
  simp only [pack]
  rw [← BitVec.xor_assoc s, L_xor (s ^^^ top x), L_shift _ (pack_low rest 0 (by omega)), BitVec.xor_assoc]

theorem fold_window (ys : List Bool) : ∀ (s : BitVec 32) (A : List Bool), A.length = 32 →
    ys.foldl push (s ^^^ pack A) = feed s ((A ++ ys).take ys.length) ^^^ pack ((A ++ ys).drop ys.length) := by
  induction ys with
  | nil => intro s A _; simp [feed]
  | cons b ys ih =>
    intro s A hA
    match A, hA with
    | x :: rest, hA =>
      have hr : rest.length = 31 := by simpa using hA
      rw [List.foldl_cons, push_window s x rest hr b, ih _ (rest ++ [b]) (by simp [hr])]
      simp [feed]

theorem pack_false (n : Nat) : pack (List.replicate n false) = 0#32 := by
  induction n with
  | zero => rfl
  | succ n ih => rw [List.replicate_succ, pack, ih]; decide

theorem feed_false (n : Nat) : feed 0#32 (List.replicate n false) = 0#32 := by
  induction n with
  | zero => rfl
  | succ n ih =>
    rw [List.replicate_succ, feed]
    have e : L (0#32 ^^^ top false) = 0#32 := by decide +kernel
    rw [e, ih]

theorem fold_first (C : List Bool) (hC : C.length = 32) : C.foldl push 0#32 = pack C := by
  have h := fold_window C 0#32 (List.replicate 32 false) (by simp)
  rw [pack_false, hC, List.take_left' (by simp), List.drop_left' (by simp), feed_false] at h
  simpa using h

theorem top_not (b : Bool) : top (!b) = top b ^^^ top true := by cases b <;> decide

theorem pack_not (xs : List Bool) : pack (xs.map (!·)) = pack (List.replicate xs.length true) ^^^ pack xs := by
  induction xs with
  | nil => simp [pack]
  | cons x xs ih =>
    rw [List.map_cons, List.length_cons, List.replicate_succ, pack, pack, pack, ih, top_not, BitVec.ushiftRight_xor_distrib]
    ac_rfl

theorem pack_true : pack (List.replicate 32 true) = 4294967295#32 := by decide +kernel

/-- The bit that is taken at a step. -/
def refBit (l : List UInt8) (k : Nat) : Bool := ((bitsOf l)[k]?.getD false) ^^ decide (k < 32)

/-- What is left behind some steps. -/
def refRest (l : List UInt8) : Nat → BitVec 32
  | 0 => 0#32
  | k + 1 => push (refRest l k) (refBit l k)

theorem refRest_fold (l : List UInt8) (k : Nat) : refRest l k = ((List.range k).map (refBit l)).foldl push 0#32 := by
  induction k with
  | zero => rfl
  | succ k ih => rw [List.range_succ, List.map_append, List.foldl_append, ← ih]; rfl

theorem refBits (l : List UInt8) : (List.range (8 * l.length + 32)).map (refBit l) =
    ((bitsOf l ++ List.replicate 32 false).take 32).map (!·) ++ (bitsOf l ++ List.replicate 32 false).drop 32 := by
  apply List.ext_getElem?
  intro i
  have hl := length_bitsOf l
  by_cases hi : i < 8 * l.length + 32
  · have e1 : ((List.range (8 * l.length + 32)).map (refBit l))[i]? = some (refBit l i) := by simp [hi]
    have e2 : (bitsOf l ++ List.replicate 32 false)[i]? = some ((bitsOf l)[i]?.getD false) := by
      by_cases h8 : i < 8 * l.length
      · rw [List.getElem?_append_left (by omega), List.getElem?_eq_getElem (by omega)]
        rfl
      · rw [List.getElem?_append_right (by omega), List.getElem?_replicate, if_pos (by omega), List.getElem?_eq_none (by omega)]
        rfl
    rw [e1]
    by_cases h32 : i < 32
    · rw [List.getElem?_append_left (by simp; omega), List.getElem?_map, List.getElem?_take, if_pos h32, e2]
      simp [refBit, h32]
    · rw [List.getElem?_append_right (by simp; omega), List.getElem?_drop]
      have e3 : 32 + (i - (((bitsOf l ++ List.replicate 32 false).take 32).map (!·)).length) = i := by simp; omega
      rw [e3, e2]
      simp [refBit, h32]
  · rw [List.getElem?_eq_none (by simp; omega), List.getElem?_eq_none (by simp [hl]; omega)]

theorem refRest_all (l : List UInt8) : refRest l (8 * l.length + 32) = crc l := by
  rw [refRest_fold, refBits, List.foldl_append]
  have hB : (bitsOf l ++ List.replicate 32 false).length = 8 * l.length + 32 := by simp [length_bitsOf]
  have hC : ((bitsOf l ++ List.replicate 32 false).take 32).length = 32 := by rw [List.length_take, hB]; omega
  have hD : ((bitsOf l ++ List.replicate 32 false).drop 32).length = (bitsOf l).length := by rw [List.length_drop, hB, length_bitsOf]; omega
  rw [fold_first _ (by rw [List.length_map]; exact hC), pack_not, hC, pack_true, fold_window _ _ _ hC, List.take_append_drop, hD, List.take_left' rfl, List.drop_left' rfl, pack_false, crc_feed]
  simp

theorem even_xor (a b : Nat) (hb : b < 2) : 2 * a ^^^ b = 2 * a + b := by
  apply Nat.eq_of_testBit_eq
  intro i
  cases i with
  | zero =>
    rw [Nat.testBit_xor, Nat.testBit_zero, Nat.testBit_zero, Nat.testBit_zero]
    have h1 : (2 * a) % 2 = 0 := by omega
    have h2 : (2 * a + b) % 2 = b % 2 := by omega
    rw [h1, h2]
    simp
  | succ i =>
    rw [Nat.testBit_xor, Nat.testBit_succ, Nat.testBit_succ, Nat.testBit_succ]
    have h1 : (2 * a) / 2 = a := by omega
    have h2 : (2 * a + b) / 2 = a := by omega
    have h3 : b / 2 = 0 := by omega
    rw [h1, h2, h3]
    simp

theorem high_xor (a c : Nat) (ha : a < 2 ^ 32) (hc : c < 2 ^ 32) : (2 ^ 32 + a) ^^^ (2 ^ 32 + c) = a ^^^ c := by
  apply Nat.eq_of_testBit_eq
  intro i
  rw [Nat.testBit_xor, Nat.testBit_xor]
  by_cases h1 : i < 32
  · rw [Nat.testBit_two_pow_add_gt h1, Nat.testBit_two_pow_add_gt h1]
  · by_cases h2 : i = 32
    · subst h2
      rw [Nat.testBit_two_pow_add_eq, Nat.testBit_two_pow_add_eq]
      cases a.testBit 32 <;> cases c.testBit 32 <;> rfl
    · have hp : 2 ^ 33 ≤ 2 ^ i := Nat.pow_le_pow_right (by omega) (by omega)
      have hq : 2 ^ 32 ≤ 2 ^ i := Nat.pow_le_pow_right (by omega) (by omega)
      rw [Nat.testBit_lt_two_pow (x := 2 ^ 32 + a) (by omega), Nat.testBit_lt_two_pow (x := 2 ^ 32 + c) (by omega), Nat.testBit_lt_two_pow (x := a) (by omega), Nat.testBit_lt_two_pow (x := c) (by omega)]

theorem low_nat (b : Bool) : (low b).toNat = b.toNat := by cases b <;> rfl

theorem push_lo (r : BitVec 32) (b : Bool) (h : 2 * r.toNat + b.toNat < 4294967296) : (push r b).toNat = 2 * r.toNat + b.toNat := by
  have hb : b.toNat < 2 := by cases b <;> decide
  have hm : r.msb = false := by rw [BitVec.msb_eq_decide]; simp; omega
  unfold push L
  rw [hm, BitVec.toNat_xor, BitVec.toNat_xor, low_nat, shl1_nat]
  simp only [Bool.false_eq_true, if_false]
  rw [show (0#32 : BitVec 32).toNat = 0 from rfl, Nat.xor_zero, Nat.mod_eq_of_lt (by omega), Nat.mul_comm, even_xor _ _ hb]

theorem push_hi (r : BitVec 32) (b : Bool) (h : 4294967296 ≤ 2 * r.toNat + b.toNat) : (push r b).toNat = (2 * r.toNat + b.toNat) ^^^ 4374732215 := by
  have hb : b.toNat < 2 := by cases b <;> decide
  have hr := r.isLt
  have hm : r.msb = true := by rw [BitVec.msb_eq_decide]; simp; omega
  unfold push L
  rw [hm, BitVec.toNat_xor, BitVec.toNat_xor, low_nat, shl1_nat]
  simp only [if_true]
  have e1 : r.toNat * 2 % 4294967296 = 2 * (r.toNat - 2147483648) := by omega
  have e2 : 2 * r.toNat + b.toNat = 2 ^ 32 + (2 * (r.toNat - 2147483648) + b.toNat) := by omega
  have e3 : (4374732215 : Nat) = 2 ^ 32 + 79764919 := by decide
  rw [e1, e2, e3, high_xor _ _ (by omega) (by decide), ← even_xor _ _ hb, show poly.toNat = 79764919 from rfl]
  rw [Nat.xor_assoc, Nat.xor_comm 79764919, ← Nat.xor_assoc]

end MathA
end

section
/-
  The document's own answers of the first layer: a bit, the sum by a long division, what is sealed.
-/
open Go.RowKit
set_option linter.unusedVariables false

theorem bit_num (y j : Nat) : y / 2 ^ j % 2 = (y.testBit j).toNat := by
  rw [Nat.testBit_eq_decide_div_mod_eq]
  have : y / 2 ^ j % 2 < 2 := Nat.mod_lt _ (by omega)
  by_cases h : y / 2 ^ j % 2 = 1
  · simp [h]
  · have h0 : y / 2 ^ j % 2 = 0 := by omega
    simp [h0]

theorem bit_int (y j : Nat) : ((y : Int) / 2 ^ j).tmod 2 = (((y.testBit j).toNat : Nat) : Int) := by
  rw [← bit_num]
  have e : (y : Int) / 2 ^ j = ((y / 2 ^ j : Nat) : Int) := by simp
  rw [e]
  generalize y / 2 ^ j = t
  rw [Int.tmod_eq_emod_of_nonneg (Int.natCast_nonneg _)]
  omega

theorem bit_at (l : List UInt8) (k : Nat) (h : k / 8 < l.length) : (MathA.bitsOf l)[k]?.getD false = (l[k / 8]).toNat.testBit (7 - k % 8) := by
  rw [MathA.bitsOf_at, List.getElem?_eq_getElem h]
  rfl

theorem wrap64 (x : Int) (h0 : 0 ≤ x) (h1 : x < 18446744073709551616) : IntKind.u64.wrap x = x := by
  simp [IntKind.wrap, IntKind.bits, IntKind.signed]
  omega

theorem refBit_in (l : List UInt8) (k : Nat) (h : k < 32) : (MathA.refBit l k).toNat = 1 - ((MathA.bitsOf l)[k]?.getD false).toNat := by
  unfold MathA.refBit
  cases (MathA.bitsOf l)[k]?.getD false <;> simp [h]

theorem refBit_out (l : List UInt8) (k : Nat) (h : ¬ k < 32) : (MathA.refBit l k).toNat = ((MathA.bitsOf l)[k]?.getD false).toNat := by
  unfold MathA.refBit
  cases (MathA.bitsOf l)[k]?.getD false <;> simp [h]

theorem bit_none (l : List UInt8) (k : Nat) (h : ¬ k < 8 * l.length) : ((MathA.bitsOf l)[k]?.getD false).toNat = 0 := by
  rw [List.getElem?_eq_none (by rw [MathA.length_bitsOf]; omega)]
  rfl

theorem xor_poly (S : Nat) (h : S < 8589934592) : bits BinOp.xor IntKind.u64 (S : Int) 4374732215 = ((S ^^^ 4374732215 : Nat) : Int) :=
  u64_xor_nat S 4374732215 (by omega) (by omega)

end

section
/-
  The document's own answer of the first layer: what is sealed.
-/
open Go.RowKit
set_option linter.unusedVariables false

theorem four_oneCell {k1 k2 k3 k4 : IntKind} {a b c d : Int} : ∀ u ∈ [Value.int k1 a, .int k2 b, .int k3 c, .int k4 d], u.oneCell' = true := by
  intro u hu
  simp at hu
  rcases hu with rfl | rfl | rfl | rfl <;> rfl

theorem four_be (c : Nat) (h : (c : Int) < 4294967296) : [Value.int .u8 ((c : Int) / 16777216), .int .u8 ((c : Int) / 65536 % 256), .int .u8 ((c : Int) / 256 % 256), .int .u8 ((c : Int) % 256)] = (be4 c).map bv := by
  rw [← be4_cells]
  unfold be4v
  rw [show (c : Int) / 16777216 = (c : Int) / 16777216 % 256 by omega]
  simp

/-- Bytes are right when they are others with their sum behind them. -/
theorem right_spec (l : List UInt8) (h4 : 4 ≤ l.length) : rightB l = (l.take (l.length - 4) ++ be4 (MathA.sum (l.take (l.length - 4))) == l) := by
  by_cases e : l.take (l.length - 4) ++ be4 (MathA.sum (l.take (l.length - 4))) = l
  · have h := MathA.right_sealed (l.take (l.length - 4))
    rw [e] at h
    rw [h, e]
    simp
  · have hf : (l.take (l.length - 4) ++ be4 (MathA.sum (l.take (l.length - 4))) == l) = false := by simpa using e
    rw [hf]
    cases hr : rightB l with
    | false => rfl
    | true =>
      exfalso
      unfold rightB at hr
      simp only [Bool.and_eq_true, beq_iff_eq] at hr
      apply e
      rw [← hr.2, MathA.be4_num32 _ (by simp; omega), List.take_append_drop]

end

end Go.Proofs.YtkckbeekehecnaaGreat
