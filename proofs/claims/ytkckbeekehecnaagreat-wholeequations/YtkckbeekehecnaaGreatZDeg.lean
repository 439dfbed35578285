/-
  Texts that lie together: DegA DegM DegB DegN DegC DegD DegE DegS DegF.
-/
import Derived.Test.YtkckbeekehecnaaGreatRows
import Derived.Test.YtkckbeekehecnaaGreatZBase
import Derived.Deep.CutRange
import Derived.Laws.BitsAllLaws
import Derived.Test.YtkckbeekehecnaaGreatZPar
import Derived.Deep.QuietTactic
import Derived.BigQuiet
namespace Go.Proofs.YtkckbeekehecnaaGreat

section
/-
  math/bits: Len64, LeadingZeros64.
-/
open Go.RowKit
set_option linter.unusedVariables false

/-- L bits are what a number has. -/
def Good (x L : Nat) : Prop := 1 ≤ x → 1 ≤ L ∧ 2 ^ (L - 1) ≤ x ∧ x < 2 ^ L

theorem Good.shift {x L : Nat} (k : Nat) (h : Good (x / 2 ^ k) L) (hx : 2 ^ k ≤ x) : Good x (k + L) := by
  intro _
  have hp : 0 < 2 ^ k := Nat.two_pow_pos k
  have h1 : 1 ≤ x / 2 ^ k := (Nat.le_div_iff_mul_le hp).2 (by omega)
  obtain ⟨g1, g2, g3⟩ := h h1
  refine ⟨by omega, ?_, ?_⟩
  · have e : k + L - 1 = (L - 1) + k := by omega
    rw [e, Nat.pow_add]
    exact (Nat.le_div_iff_mul_le hp).1 g2
  · rw [Nat.add_comm, Nat.pow_add]
    exact (Nat.div_lt_iff_lt_mul hp).1 g3

def lenT : ByteArray := ⟨#[0, 1, 2, 2, 3, 3, 3, 3, 4, 4, 4, 4, 4, 4, 4, 4, 5, 5, 5, 5, 5, 5, 5, 5, 5, 5, 5, 5, 5, 5, 5, 5, 6, 6, 6, 6, 6, 6, 6, 6, 6, 6, 6, 6, 6, 6, 6, 6, 6, 6, 6, 6, 6, 6, 6, 6, 6, 6, 6, 6, 6, 6, 6, 6, 7, 7, 7, 7, 7, 7, 7, 7, 7, 7, 7, 7, 7, 7, 7, 7, 7, 7, 7, 7, 7, 7, 7, 7, 7, 7, 7, 7, 7, 7, 7, 7, 7, 7, 7, 7, 7, 7, 7, 7, 7, 7, 7, 7, 7, 7, 7, 7, 7, 7, 7, 7, 7, 7, 7, 7, 7, 7, 7, 7, 7, 7, 7, 7, 8, 8, 8, 8, 8, 8, 8, 8, 8, 8, 8, 8, 8, 8, 8, 8, 8, 8, 8, 8, 8, 8, 8, 8, 8, 8, 8, 8, 8, 8, 8, 8, 8, 8, 8, 8, 8, 8, 8, 8, 8, 8, 8, 8, 8, 8, 8, 8, 8, 8, 8, 8, 8, 8, 8, 8, 8, 8, 8, 8, 8, 8, 8, 8, 8, 8, 8, 8, 8, 8, 8, 8, 8, 8, 8, 8, 8, 8, 8, 8, 8, 8, 8, 8, 8, 8, 8, 8, 8, 8, 8, 8, 8, 8, 8, 8, 8, 8, 8, 8, 8, 8, 8, 8, 8, 8, 8, 8, 8, 8, 8, 8, 8, 8, 8, 8, 8, 8, 8, 8, 8, 8, 8, 8, 8, 8, 8, 8]⟩

theorem lenT_good : ∀ j, (h : j < lenT.size) → Good j (lenT[j]).toNat := by unfold Good; decide +kernel

theorem wrap_len0 (u : UInt8) : wrap64 (wrap64 (u.toNat : Int)) = ((u.toNat : Nat) : Int) := by
  have := u.toNat_lt
  unfold wrap64
  omega
theorem wrap_len (o : Nat) (z : Int) (u : UInt8) (hz : z = o) (ho : o ≤ 64) : wrap64 (z + wrap64 (u.toNat : Int)) = ((o + u.toNat : Nat) : Int) := by
  have := u.toNat_lt
  subst hz
  unfold wrap64
  omega

theorem ret_i {k : IntKind} {a b : Int} (h : a = b) : Ending.returned (.int k a) = .returned (.int k b) := by rw [h]

set_option maxRecDepth 100000 in
set_option maxHeartbeats 1000000 in
theorem len64_000 (x : Nat) (w : World) (g32 : ¬ (x : Int) ≥ 4294967296) (g16 : ¬ (x : Int) ≥ 65536) (g8 : ¬ (x : Int) ≥ 256) (hl : x < 256) :
    Calls Tryz.prog 93 #[.int .u64 x] w fun e w' => ∃ L : Nat, e = .returned (.int .i64 (L : Nat)) ∧ Good x L ∧ w' = w := by
  have hl2 : IntKind.u8.wrap (x : Int) = x := by rw [IntKind.wrap_u8]; omega
  go_enter Tryz.func93, Tryz.ntmps93
  go_upto_region 10 with fail
  clear  g8 g16 g32
  go_wp2
  go_ret
  exact ⟨_, ret_i (wrap_len0 _), lenT_good x hl, rfl⟩

set_option maxRecDepth 100000 in
set_option maxHeartbeats 1000000 in
theorem len64_001 (x : Nat) (w : World) (g32 : ¬ (x : Int) ≥ 4294967296) (g16 : ¬ (x : Int) ≥ 65536) (x1 : Nat) (e1 : (x : Int) / 256 = (x1 : Int)) (g8 : (x : Int) ≥ 256) (hl : x1 < 256) :
    Calls Tryz.prog 93 #[.int .u64 x] w fun e w' => ∃ L : Nat, e = .returned (.int .i64 ((8 + L) : Nat)) ∧ Good x1 L ∧ w' = w := by
  have hl2 : IntKind.u8.wrap (x1 : Int) = x1 := by rw [IntKind.wrap_u8]; omega
  go_enter Tryz.func93, Tryz.ntmps93
  go_upto_region 10 with fail
  clear e1 g8 g16 g32
  go_wp2
  go_ret
  exact ⟨_, ret_i (wrap_len 8 _ _ rfl (by decide)), lenT_good x1 hl, rfl⟩

set_option maxRecDepth 100000 in
set_option maxHeartbeats 1000000 in
theorem len64_010 (x : Nat) (w : World) (g32 : ¬ (x : Int) ≥ 4294967296) (x1 : Nat) (e1 : (x : Int) / 65536 = (x1 : Int)) (g16 : (x : Int) ≥ 65536) (g8 : ¬ (x1 : Int) ≥ 256) (hl : x1 < 256) :
    Calls Tryz.prog 93 #[.int .u64 x] w fun e w' => ∃ L : Nat, e = .returned (.int .i64 ((16 + L) : Nat)) ∧ Good x1 L ∧ w' = w := by
  have hl2 : IntKind.u8.wrap (x1 : Int) = x1 := by rw [IntKind.wrap_u8]; omega
  go_enter Tryz.func93, Tryz.ntmps93
  go_upto_region 10 with fail
  clear e1 g8 g16 g32
  go_wp2
  go_ret
  exact ⟨_, ret_i (wrap_len 16 _ _ rfl (by decide)), lenT_good x1 hl, rfl⟩

set_option maxRecDepth 100000 in
set_option maxHeartbeats 1000000 in
theorem len64_011 (x : Nat) (w : World) (g32 : ¬ (x : Int) ≥ 4294967296) (x1 : Nat) (e1 : (x : Int) / 65536 = (x1 : Int)) (g16 : (x : Int) ≥ 65536) (x2 : Nat) (e2 : (x1 : Int) / 256 = (x2 : Int)) (g8 : (x1 : Int) ≥ 256) (hl : x2 < 256) :
    Calls Tryz.prog 93 #[.int .u64 x] w fun e w' => ∃ L : Nat, e = .returned (.int .i64 ((24 + L) : Nat)) ∧ Good x2 L ∧ w' = w := by
  have hl2 : IntKind.u8.wrap (x2 : Int) = x2 := by rw [IntKind.wrap_u8]; omega
  go_enter Tryz.func93, Tryz.ntmps93
  go_upto_region 10 with fail
  clear e1 e2 g8 g16 g32
  go_wp2
  go_ret
  exact ⟨_, ret_i (wrap_len 24 _ _ rfl (by decide)), lenT_good x2 hl, rfl⟩

set_option maxRecDepth 100000 in
set_option maxHeartbeats 1000000 in
theorem len64_100 (x : Nat) (w : World) (x1 : Nat) (e1 : (x : Int) / 4294967296 = (x1 : Int)) (g32 : (x : Int) ≥ 4294967296) (g16 : ¬ (x1 : Int) ≥ 65536) (g8 : ¬ (x1 : Int) ≥ 256) (hl : x1 < 256) :
    Calls Tryz.prog 93 #[.int .u64 x] w fun e w' => ∃ L : Nat, e = .returned (.int .i64 ((32 + L) : Nat)) ∧ Good x1 L ∧ w' = w := by
  have hl2 : IntKind.u8.wrap (x1 : Int) = x1 := by rw [IntKind.wrap_u8]; omega
  go_enter Tryz.func93, Tryz.ntmps93
  go_upto_region 10 with fail
  clear e1 g8 g16 g32
  go_wp2
  go_ret
  exact ⟨_, ret_i (wrap_len 32 _ _ rfl (by decide)), lenT_good x1 hl, rfl⟩

set_option maxRecDepth 100000 in
set_option maxHeartbeats 1000000 in
theorem len64_101 (x : Nat) (w : World) (x1 : Nat) (e1 : (x : Int) / 4294967296 = (x1 : Int)) (g32 : (x : Int) ≥ 4294967296) (g16 : ¬ (x1 : Int) ≥ 65536) (x2 : Nat) (e2 : (x1 : Int) / 256 = (x2 : Int)) (g8 : (x1 : Int) ≥ 256) (hl : x2 < 256) :
    Calls Tryz.prog 93 #[.int .u64 x] w fun e w' => ∃ L : Nat, e = .returned (.int .i64 ((40 + L) : Nat)) ∧ Good x2 L ∧ w' = w := by
  have hl2 : IntKind.u8.wrap (x2 : Int) = x2 := by rw [IntKind.wrap_u8]; omega
  go_enter Tryz.func93, Tryz.ntmps93
  go_upto_region 10 with fail
  clear e1 e2 g8 g16 g32
  go_wp2
  go_ret
  exact ⟨_, ret_i (wrap_len 40 _ _ rfl (by decide)), lenT_good x2 hl, rfl⟩

set_option maxRecDepth 100000 in
set_option maxHeartbeats 1000000 in
theorem len64_110 (x : Nat) (w : World) (x1 : Nat) (e1 : (x : Int) / 4294967296 = (x1 : Int)) (g32 : (x : Int) ≥ 4294967296) (x2 : Nat) (e2 : (x1 : Int) / 65536 = (x2 : Int)) (g16 : (x1 : Int) ≥ 65536) (g8 : ¬ (x2 : Int) ≥ 256) (hl : x2 < 256) :
    Calls Tryz.prog 93 #[.int .u64 x] w fun e w' => ∃ L : Nat, e = .returned (.int .i64 ((48 + L) : Nat)) ∧ Good x2 L ∧ w' = w := by
  have hl2 : IntKind.u8.wrap (x2 : Int) = x2 := by rw [IntKind.wrap_u8]; omega
  go_enter Tryz.func93, Tryz.ntmps93
  go_upto_region 10 with fail
  clear e1 e2 g8 g16 g32
  go_wp2
  go_ret
  exact ⟨_, ret_i (wrap_len 48 _ _ rfl (by decide)), lenT_good x2 hl, rfl⟩

set_option maxRecDepth 100000 in
set_option maxHeartbeats 1000000 in
theorem len64_111 (x : Nat) (w : World) (x1 : Nat) (e1 : (x : Int) / 4294967296 = (x1 : Int)) (g32 : (x : Int) ≥ 4294967296) (x2 : Nat) (e2 : (x1 : Int) / 65536 = (x2 : Int)) (g16 : (x1 : Int) ≥ 65536) (x3 : Nat) (e3 : (x2 : Int) / 256 = (x3 : Int)) (g8 : (x2 : Int) ≥ 256) (hl : x3 < 256) :
    Calls Tryz.prog 93 #[.int .u64 x] w fun e w' => ∃ L : Nat, e = .returned (.int .i64 ((56 + L) : Nat)) ∧ Good x3 L ∧ w' = w := by
  have hl2 : IntKind.u8.wrap (x3 : Int) = x3 := by rw [IntKind.wrap_u8]; omega
  go_enter Tryz.func93, Tryz.ntmps93
  go_upto_region 10 with fail
  clear e1 e2 e3 g8 g16 g32
  go_wp2
  go_ret
  exact ⟨_, ret_i (wrap_len 56 _ _ rfl (by decide)), lenT_good x3 hl, rfl⟩

theorem div_cast (x c : Nat) {C : Int} (hC : C = c) : (x : Int) / C = ((x / c : Nat) : Int) := by subst hC; simp

theorem good_lt {x L : Nat} (h : Good x L) (h1 : 1 ≤ x) (hx : x < 2 ^ 64) : L ≤ 64 := by
  obtain ⟨g1, g2, g3⟩ := h h1
  have := (Nat.pow_lt_pow_iff_right (a := 2) (by decide)).1 (Nat.lt_of_le_of_lt g2 hx)
  omega

theorem len64_any (x : Nat) (w : World) (hx : x < 18446744073709551616) :
    Calls Tryz.prog 93 #[.int .u64 x] w fun e w' => ∃ L : Nat, e = .returned (.int .i64 (L : Nat)) ∧ Good x L ∧ w' = w := by
  by_cases h32 : x ≥ 4294967296
  · have t32 : ((x : Nat) : Int) ≥ 4294967296 := by omega
    by_cases h16 : x / 4294967296 ≥ 65536
    · have t16 : ((x / 4294967296 : Nat) : Int) ≥ 65536 := by omega
      by_cases h8 : (x / 4294967296) / 65536 ≥ 256
      · have t8 : (((x / 4294967296) / 65536 : Nat) : Int) ≥ 256 := by omega
        refine (len64_111 x w (x / 4294967296) (div_cast (x) 4294967296 rfl) t32 ((x / 4294967296) / 65536) (div_cast (x / 4294967296) 65536 rfl) t16 (((x / 4294967296) / 65536) / 256) (div_cast ((x / 4294967296) / 65536) 256 rfl) t8 (by omega)).mono ?_
        rintro e w' ⟨L, rfl, hg, rfl⟩
        exact ⟨(32 + (16 + (8 + L))), ret_i (by omega), (Good.shift (x := x) 32 (Good.shift (x := x / 4294967296) 16 (Good.shift (x := (x / 4294967296) / 65536) 8 hg (by omega)) (by omega)) (by omega)), rfl⟩
      · have t8 : ¬ (((x / 4294967296) / 65536 : Nat) : Int) ≥ 256 := by omega
        refine (len64_110 x w (x / 4294967296) (div_cast (x) 4294967296 rfl) t32 ((x / 4294967296) / 65536) (div_cast (x / 4294967296) 65536 rfl) t16 t8 (by omega)).mono ?_
        rintro e w' ⟨L, rfl, hg, rfl⟩
        exact ⟨(32 + (16 + L)), ret_i (by omega), (Good.shift (x := x) 32 (Good.shift (x := x / 4294967296) 16 hg (by omega)) (by omega)), rfl⟩
    · have t16 : ¬ ((x / 4294967296 : Nat) : Int) ≥ 65536 := by omega
      by_cases h8 : x / 4294967296 ≥ 256
      · have t8 : ((x / 4294967296 : Nat) : Int) ≥ 256 := by omega
        refine (len64_101 x w (x / 4294967296) (div_cast (x) 4294967296 rfl) t32 t16 ((x / 4294967296) / 256) (div_cast (x / 4294967296) 256 rfl) t8 (by omega)).mono ?_
        rintro e w' ⟨L, rfl, hg, rfl⟩
        exact ⟨(32 + (8 + L)), ret_i (by omega), (Good.shift (x := x) 32 (Good.shift (x := x / 4294967296) 8 hg (by omega)) (by omega)), rfl⟩
      · have t8 : ¬ ((x / 4294967296 : Nat) : Int) ≥ 256 := by omega
        refine (len64_100 x w (x / 4294967296) (div_cast (x) 4294967296 rfl) t32 t16 t8 (by omega)).mono ?_
        rintro e w' ⟨L, rfl, hg, rfl⟩
        exact ⟨(32 + L), ret_i (by omega), (Good.shift (x := x) 32 hg (by omega)), rfl⟩
  · have t32 : ¬ ((x : Nat) : Int) ≥ 4294967296 := by omega
    by_cases h16 : x ≥ 65536
    · have t16 : ((x : Nat) : Int) ≥ 65536 := by omega
      by_cases h8 : x / 65536 ≥ 256
      · have t8 : ((x / 65536 : Nat) : Int) ≥ 256 := by omega
        refine (len64_011 x w t32 (x / 65536) (div_cast (x) 65536 rfl) t16 ((x / 65536) / 256) (div_cast (x / 65536) 256 rfl) t8 (by omega)).mono ?_
        rintro e w' ⟨L, rfl, hg, rfl⟩
        exact ⟨(16 + (8 + L)), ret_i (by omega), (Good.shift (x := x) 16 (Good.shift (x := x / 65536) 8 hg (by omega)) (by omega)), rfl⟩
      · have t8 : ¬ ((x / 65536 : Nat) : Int) ≥ 256 := by omega
        refine (len64_010 x w t32 (x / 65536) (div_cast (x) 65536 rfl) t16 t8 (by omega)).mono ?_
        rintro e w' ⟨L, rfl, hg, rfl⟩
        exact ⟨(16 + L), ret_i (by omega), (Good.shift (x := x) 16 hg (by omega)), rfl⟩
    · have t16 : ¬ ((x : Nat) : Int) ≥ 65536 := by omega
      by_cases h8 : x ≥ 256
      · have t8 : ((x : Nat) : Int) ≥ 256 := by omega
        refine (len64_001 x w t32 t16 (x / 256) (div_cast (x) 256 rfl) t8 (by omega)).mono ?_
        rintro e w' ⟨L, rfl, hg, rfl⟩
        exact ⟨(8 + L), ret_i (by omega), (Good.shift (x := x) 8 hg (by omega)), rfl⟩
      · have t8 : ¬ ((x : Nat) : Int) ≥ 256 := by omega
        refine (len64_000 x w t32 t16 t8 (by omega)).mono ?_
        rintro e w' ⟨L, rfl, hg, rfl⟩
        exact ⟨L, rfl, hg, rfl⟩

end

section
/-
  Long division by two digits of 32 bits: mathematics.
-/

/-- The trial digit q, the rest r: not yet too small. -/
structure StepI (U Y n1 q r : Nat) : Prop where
  up : U * 4294967296 < (q + 1) * Y
  eq : q * n1 + r = U
  lt : r < 4294967296
  le : q ≤ 4294967297

/-- The two digits of the divisor. -/
structure Digs (Y n1 n0 : Nat) : Prop where
  eq : n1 * 4294967296 + n0 = Y
  lo : 2147483648 ≤ n1
  hi : n1 < 4294967296
  n0 : n0 < 4294967296

theorem step_start {U Y n1 n0 : Nat} (h : Digs Y n1 n0) (hU : U < Y) : StepI U Y n1 (U / n1) (U % n1) := by
  obtain ⟨h1, h2, h3, h4⟩ := h
  have hp : 0 < n1 := by omega
  have e := Nat.div_add_mod U n1
  have l := Nat.mod_lt U hp
  generalize U / n1 = q at *
  generalize U % n1 = r at *
  rw [Nat.mul_comm] at e
  refine ⟨?_, e, by omega, ?_⟩
  · have a : U + 1 ≤ (q + 1) * n1 := by rw [Nat.add_mul]; omega
    have c0 : n1 * 4294967296 ≤ Y := by rw [← h1]; exact Nat.le_add_right _ _
    have c1 := Nat.mul_le_mul_left (q + 1) c0
    rw [← Nat.mul_assoc] at c1
    clear h1 c0 hU e
    generalize (q + 1) * n1 = A at *
    generalize (q + 1) * Y = C at *
    omega
  · have a : q * n1 < 4294967298 * n1 := by omega
    have := Nat.lt_of_mul_lt_mul_right a
    omega

theorem StepI.mul {U Y n1 n0 q r : Nat} (h : StepI U Y n1 q r) (d : Digs Y n1 n0) : q * Y + r * 4294967296 = U * 4294967296 + q * n0 := by
  rw [← d.eq, ← h.eq, Nat.mul_add, Nat.add_mul, Nat.mul_assoc]
  omega

/-- The digit was too great. -/
theorem StepI.less {U Y n1 n0 q r : Nat} (h : StepI U Y n1 q r) (d : Digs Y n1 n0) (hU : U < Y) (ht : 4294967296 ≤ q ∨ 4294967296 * r < q * n0) : ∃ p, q = p + 1 ∧ U * 4294967296 < (p + 1) * Y ∧ p * n1 + (r + n1) = U ∧ p ≤ 4294967296 ∧ r + n1 < 8589934592 := by
  have hm := h.mul d
  have hq : 1 ≤ q := by
    rcases ht with h1 | h1
    · omega
    · rcases Nat.eq_zero_or_pos q with rfl | h0
      · simp at h1
      · exact h0
  obtain ⟨p, rfl⟩ : ∃ p, q = p + 1 := ⟨q - 1, by omega⟩
  have := h.le
  have := h.lt
  have := d.hi
  have he := h.eq
  rw [Nat.add_mul] at he
  refine ⟨p, rfl, ?_, by omega, by omega, by omega⟩
  rcases ht with h1 | h1
  · have a : 4294967296 * Y ≤ (p + 1) * Y := Nat.mul_le_mul_right _ h1
    omega
  · omega

theorem StepI.on {U Y n1 r p : Nat} (h1 : U * 4294967296 < (p + 1) * Y) (h2 : p * n1 + (r + n1) = U) (h3 : p ≤ 4294967296) (h4 : r + n1 < 4294967296) : StepI U Y n1 p (r + n1) := ⟨h1, h2, h4, by omega⟩

/-- The digit is it. -/
def IsDig (U Y q : Nat) : Prop := q * Y ≤ U * 4294967296 ∧ U * 4294967296 < (q + 1) * Y

theorem dig_break {U Y n1 n0 r p : Nat} (d : Digs Y n1 n0) (h1 : U * 4294967296 < (p + 1) * Y) (h2 : p * n1 + (r + n1) = U) (h3 : p ≤ 4294967296) (h4 : ¬ r + n1 < 4294967296) : IsDig U Y p := by
  refine ⟨?_, h1⟩
  have a : p * Y = p * n1 * 4294967296 + p * n0 := by rw [← d.eq, Nat.mul_add, Nat.mul_assoc]
  have b : p * n0 ≤ 4294967296 * n0 := Nat.mul_le_mul_right _ h3
  have := d.n0
  rw [a]
  have c : p * n1 = U - (r + n1) := by omega
  rw [c]
  omega

theorem StepI.done {U Y n1 n0 q r : Nat} (h : StepI U Y n1 q r) (d : Digs Y n1 n0) (h1 : q * n0 ≤ 4294967296 * r) : IsDig U Y q := by
  refine ⟨?_, h.up⟩
  have := h.mul d
  omega

theorem IsDig.lt {U Y q : Nat} (h : IsDig U Y q) (hU : U < Y) : q < 4294967296 := by
  have a : q * Y < 4294967296 * Y := by have := h.1; omega
  exact Nat.lt_of_mul_lt_mul_right a

theorem IsDig.rest {U Y q : Nat} (h : IsDig U Y q) : U * 4294967296 - q * Y < Y := by
  have h1 := h.1
  have h2 := h.2
  rw [Nat.add_mul] at h2
  omega

theorem sq64 (U : Nat) : U * 18446744073709551616 = U * 4294967296 * 4294967296 := by
  rw [Nat.mul_assoc]

theorem arith1 (A B D T : Nat) (h : B ≤ D * T) : A * T + B ≤ (A + D) * T := by
  rw [Nat.add_mul]
  exact Nat.add_le_add_left h _
theorem arith2 (A B D Y T : Nat) (h : D * T < B + Y) : (A + D) * T < A * T + B + Y := by
  rw [Nat.add_mul, Nat.add_assoc]
  exact Nat.add_lt_add_left h _

theorem two_digs {U Y q p : Nat} (h : IsDig U Y q) (k : IsDig (U * 4294967296 - q * Y) Y p) : U * 18446744073709551616 / Y = q * 4294967296 + p := by
  obtain ⟨h1, h2⟩ := h
  obtain ⟨k1, k2⟩ := k
  have e : (q * 4294967296 + p) * Y = q * Y * 4294967296 + p * Y := by
    rw [Nat.add_mul]
    congr 1
    rw [Nat.mul_assoc, Nat.mul_comm 4294967296 Y, Nat.mul_assoc]
  rw [sq64]
  obtain ⟨D, hD⟩ : ∃ D, U * 4294967296 = q * Y + D := ⟨U * 4294967296 - q * Y, by omega⟩
  have hD2 : U * 4294967296 - q * Y = D := by omega
  rw [hD2] at k1 k2
  rw [Nat.succ_mul] at k2
  rw [hD]
  clear h1 h2 hD hD2
  have l1 : (q * 4294967296 + p) * Y ≤ (q * Y + D) * 4294967296 := by
    rw [e]
    exact arith1 _ _ _ _ k1
  have l2 : (q * Y + D) * 4294967296 < (q * 4294967296 + p) * Y + Y := by
    rw [e]
    exact arith2 _ _ _ _ _ k2
  clear e k1 k2
  generalize q * 4294967296 + p = Z at *
  rw [← Nat.succ_mul] at l2
  exact Nat.div_eq_of_lt_le l1 l2

theorem shifted {hi y s : Nat} : hi * 2 ^ s * 18446744073709551616 / (y * 2 ^ s) = hi * 18446744073709551616 / y := by
  have e : hi * 2 ^ s * 18446744073709551616 = hi * 18446744073709551616 * 2 ^ s := Nat.mul_right_comm _ _ _
  rw [e]
  exact Nat.mul_div_mul_right _ _ (Nat.two_pow_pos s)

theorem digs_of {Y : Nat} (h1 : 9223372036854775808 ≤ Y) (h2 : Y < 18446744073709551616) : Digs Y (Y / 4294967296) (Y % 4294967296) := by
  refine ⟨by omega, by omega, by omega, by omega⟩

theorem norm_of {y L : Nat} (h1 : 1 ≤ L) (h2 : 2 ^ (L - 1) ≤ y) (h3 : y < 2 ^ L) (h4 : L ≤ 64) : 9223372036854775808 ≤ y * 2 ^ (64 - L) ∧ y * 2 ^ (64 - L) < 18446744073709551616 := by
  constructor
  · have := Nat.mul_le_mul_right (2 ^ (64 - L)) h2
    rw [← Nat.pow_add, show L - 1 + (64 - L) = 63 by omega] at this
    exact this
  · have := (Nat.mul_lt_mul_right (Nat.two_pow_pos (64 - L))).2 h3
    rw [← Nat.pow_add, show L + (64 - L) = 64 by omega] at this
    exact this

end

section
/-
  math/bits: Div64, where the lower half is nought.
-/
open Go.RowKit
set_option linter.unusedVariables false

set_option maxRecDepth 100000 in
set_option maxHeartbeats 1000000 in
theorem lz64_any (x : Nat) (w : World) (h1 : 1 ≤ x) (hx : x < 18446744073709551616) :
    Calls Tryz.prog 105 #[.int .u64 x] w fun e w' => ∃ s : Nat, e = .returned (.int .i64 (s : Nat)) ∧ s ≤ 63 ∧ (9223372036854775808 ≤ x * 2 ^ s ∧ x * 2 ^ s < 18446744073709551616) ∧ w' = w := by
  have HL : Hid (∀ W, Calls Tryz.prog 93 #[.int .u64 x] W fun e w' => ∃ L : Nat, e = .returned (.int .i64 (L : Nat)) ∧ Good x L ∧ w' = W) := fun W => len64_any x W hx
  have Hx : Hid (1 ≤ x ∧ x < 18446744073709551616) := ⟨h1, hx⟩
  clear h1 hx
  go_enter Tryz.func105, Tryz.ntmps105
  go_wp2_with fail
  refine (HL.out _).mono ?_
  rintro e w1 ⟨L, rfl, hg, rfl⟩
  have hL := good_lt hg Hx.out.1 Hx.out.2
  obtain ⟨g1, g2, g3⟩ := hg Hx.out.1
  have HN : Hid (9223372036854775808 ≤ x * 2 ^ (64 - L) ∧ x * 2 ^ (64 - L) < 18446744073709551616) := norm_of g1 g2 g3 hL
  clear g2 g3 hg Hx HL
  go_wp2
  go_ret
  exact ⟨64 - L, ret_i (by omega), by omega, HN.out, rfl⟩

theorem u64w (n : Nat) (h : n < 18446744073709551616) : IntKind.u64.wrap (n : Int) = n := by
  rw [IntKind.wrap_u64]
  omega
theorem u64w_of {z : Int} {n : Nat} (hz : z = n) (h : n < 18446744073709551616) : IntKind.u64.wrap z = n := by
  rw [hz]
  exact u64w n h
theorem u64w_mul {a b c : Nat} (e : a * b = c) (h : c < 18446744073709551616) : IntKind.u64.wrap ((a : Int) * (b : Int)) = c := u64w_of (by rw [← e]; simp) h
theorem u64w_shl {a s c : Nat} (e : a * 2 ^ s = c) (h : c < 18446744073709551616) : IntKind.u64.wrap ((a : Int) * 2 ^ s) = c := u64w_of (by rw [← e]; simp) h
theorem u64w_lmul {a c : Nat} {K : Int} {k : Nat} (hK : K = k) (e : k * a = c) (h : c < 18446744073709551616) : IntKind.u64.wrap (K * (a : Int)) = c := u64w_of (by rw [← e, hK]; simp) h
theorem u64w_rmul {a c : Nat} {K : Int} {k : Nat} (hK : K = k) (e : a * k = c) (h : c < 18446744073709551616) : IntKind.u64.wrap ((a : Int) * K) = c := u64w_of (by rw [← e, hK]; simp) h
theorem u64w_add {a b c : Nat} (e : a + b = c) (h : c < 18446744073709551616) : IntKind.u64.wrap ((a : Int) + (b : Int)) = c := u64w_of (by rw [← e]; simp) h
theorem u64w_sub {a b c : Nat} (e : b + c = a) (h : c < 18446744073709551616) : IntKind.u64.wrap ((a : Int) - (b : Int)) = c := u64w_of (by omega) h
theorem u64w_sub1 {a c : Nat} (e : a = c + 1) (h : c < 18446744073709551616) : IntKind.u64.wrap ((a : Int) - 1) = c := u64w_of (by omega) h

theorem u64_mask (Y : Nat) (h : Y < 18446744073709551616) : bits BinOp.and IntKind.u64 (Y : Int) 4294967295 = ((Y % 4294967296 : Nat) : Int) := by
  have e := u64_and_nat Y 4294967295 h (by decide)
  have e2 := Nat.and_two_pow_sub_one_eq_mod Y 32
  have e3 : Y &&& 4294967295 = Y % 4294967296 := e2
  rw [e3] at e
  exact e
theorem u64_mask0 : bits BinOp.and IntKind.u64 0 4294967295 = 0 := by
  have e := u64_mask 0 (by decide)
  simpa using e
theorem u64_or0 (U : Nat) (h : U < 18446744073709551616) : bits BinOp.or IntKind.u64 (U : Int) 0 = (U : Int) := by
  have e := u64_or_nat U 0 h (by decide)
  rw [Nat.or_zero] at e
  exact e

theorem divI {a b c : Nat} (e : a / b = c) : (a : Int) / (b : Int) = c := by rw [← e]; simp
theorem divK {a c : Nat} {K : Int} {k : Nat} (hK : K = k) (e : a / k = c) : (a : Int) / K = c := by rw [← e, hK]; simp

theorem small_mul {q n : Nat} (h : ¬ 4294967296 ≤ q) (k : n < 4294967296) : q * n < 18446744073709551616 := by
  have a : q * n ≤ 4294967295 * 4294967295 := Nat.mul_le_mul (by omega) (by omega)
  omega

/-- The rest behind the first digit, as it is reckoned. -/
theorem rest_wrap {U Y q A B V : Nat} (hA : U * 4294967296 % 18446744073709551616 = A) (hB : q * Y % 18446744073709551616 = B) (hV : U * 4294967296 - q * Y = V) (hl : q * Y ≤ U * 4294967296) (hv : V < 18446744073709551616) : IntKind.u64.wrap ((A : Int) - (B : Int)) = V := by
  rw [IntKind.wrap_u64]
  omega
theorem modw {z : Int} {n A : Nat} (hz : z = n) (hA : n % 18446744073709551616 = A) : IntKind.u64.wrap z = A := by
  rw [IntKind.wrap_u64, hz]
  omega

set_option maxRecDepth 100000 in
set_option maxHeartbeats 4000000 in
theorem div64_top (hi y : Nat) (w : World) (h0 : 1 ≤ hi) (h1 : hi < y) (hy : y < 18446744073709551616) :
    Calls Tryz.prog 96 #[.int .u64 hi, .int .u64 0, .int .u64 y] w fun e w' => ∃ r : Int, e = .returned (.tuple #[.int .u64 ((hi * 18446744073709551616 / y : Nat) : Int), .int .u64 r]) ∧ w' = w := by
  have HZ : Hid (∀ W, Calls Tryz.prog 105 #[.int .u64 y] W fun e w' => ∃ s : Nat, e = .returned (.int .i64 (s : Nat)) ∧ s ≤ 63 ∧ (9223372036854775808 ≤ y * 2 ^ s ∧ y * 2 ^ s < 18446744073709551616) ∧ w' = W) := fun W => lz64_any y W (by omega) hy
  have i1 : ¬ (y : Int) = 0 := by omega
  have i2 : ¬ (hi : Int) = 0 := by omega
  have i3 : ¬ (y : Int) ≤ (hi : Int) := by omega
  have H1 : Hid (hi < y) := h1
  obtain ⟨Z, hZ⟩ : ∃ Z, hi * 18446744073709551616 / y = Z := ⟨_, rfl⟩
  rw [hZ]
  have HQ : Hid (hi * 18446744073709551616 / y = Z) := hZ
  clear hy h0 h1 hZ
  go_enter Tryz.func96, Tryz.ntmps96
  go_wp2_with fail
  refine (HZ.out _).mono ?_
  rintro e w1 ⟨s, rfl, hs, hn, rfl⟩
  clear HZ
  have HQ2 : Hid (hi * 2 ^ s * 18446744073709551616 / (y * 2 ^ s) = Z) := shifted.trans HQ.out
  have hUY : hi * 2 ^ s < y * 2 ^ s := (Nat.mul_lt_mul_right (Nat.two_pow_pos s)).2 H1.out
  clear HQ H1
  obtain ⟨Y, hY⟩ : ∃ Y, y * 2 ^ s = Y := ⟨_, rfl⟩
  obtain ⟨U, hU⟩ : ∃ U, hi * 2 ^ s = U := ⟨_, rfl⟩
  rw [hY] at hn HQ2 hUY
  rw [hU] at HQ2 hUY
  have HU : Hid (U < Y) := hUY
  have HY : Hid (Y < 18446744073709551616) := hn.2
  have a1 := u64w_shl hY hn.2
  have a4 := u64w_shl hU (by omega)
  have a5 := u64_or0 U (by omega)
  have a6 := u64_mask0
  have D0 := digs_of hn.1 hn.2
  have a3 := u64_mask Y hn.2
  obtain ⟨n1, hn1⟩ : ∃ n, Y / 4294967296 = n := ⟨_, rfl⟩
  obtain ⟨n0, hn0⟩ : ∃ n, Y % 4294967296 = n := ⟨_, rfl⟩
  have a2 := divK (K := 4294967296) (k := 4294967296) rfl hn1
  rw [hn1, hn0] at D0
  rw [hn0] at a3
  have HD : Hid (Digs Y n1 n0) := D0
  have I0 := step_start D0 hUY
  obtain ⟨q0, hq0⟩ : ∃ q, U / n1 = q := ⟨_, rfl⟩
  obtain ⟨r0, hr0⟩ : ∃ q, U % n1 = q := ⟨_, rfl⟩
  rw [hq0, hr0] at I0
  have a7 := divI hq0
  have a7b := u64w q0 (by have := I0.le; omega)
  have i4 : ¬ (n1 : Int) = 0 := by have := D0.lo; omega
  have HI : Hid (StepI U Y n1 q0 r0) := I0
  obtain ⟨t0, ht0⟩ : ∃ t, q0 * n1 = t := ⟨_, rfl⟩
  have he := I0.eq
  rw [ht0] at he
  have a8 := u64w_mul ht0 (by omega)
  have a9 := u64w_sub (a := U) (b := t0) (c := r0) he (by omega)
  clear hn hY hU hUY D0 hn1 hn0 hq0 hr0 I0 he ht0
  go_upto_region 17 with fail
  clear a1 a2 a3 a4 a5 a6 a7 a7b a8 a9 i1 i2 i3
  go_loop [15, 16] (fun qv rv => ∃ (q r : Nat), qv = .int .u64 (q : Nat) ∧ rv = .int .u64 (r : Nat) ∧ Hid (StepI U Y n1 q r)) (fun qv _ => (intOf qv).toNat)
  case atStart => exact ⟨q0, r0, rfl, rfl, HI⟩
  case round =>
    obtain ⟨q, r, rfl, rfl, I⟩ := hrel
    clear HI
    have hI := I.out
    by_cases hq : 4294967296 ≤ q
    · have hq' : (q : Int) ≥ 4294967296 := by omega
      obtain ⟨p, hp, p1, p2, p3, p4⟩ := hI.less HD.out HU.out (.inl hq)
      obtain ⟨t, ht⟩ : ∃ t, r + n1 = t := ⟨_, rfl⟩
      have b1 := u64w_sub1 hp (by omega)
      have b2 := u64w_add ht (by omega)

      by_cases hb : r + n1 < 4294967296
      · have I2 : Hid (StepI U Y n1 p (r + n1)) := StepI.on p1 p2 p3 hb
        rw [ht] at I2 hb
        have hb' : ¬ (t : Int) ≥ 4294967296 := by omega
        have HM : Hid (q = p + 1) := hp
        clear I hI p1 p2 p3 p4 ht hp hq hb
        go_wp2
        go_round
        case rel => exact ⟨p, t, rfl, rfl, I2⟩
        case measure => have := HM.out; simp [intOf]; omega
      · have D : Hid (IsDig U Y p) := dig_break HD.out p1 p2 p3 hb
        have hb' : (t : Int) ≥ 4294967296 := by omega
        clear I hI p1 p2 p3 p4 ht hp hq hb
        have DL := D.out.lt HU.out
        have DR := D.out.rest
        have DE := D.out.1
        have D1 : Hid (IsDig U Y p) := D
        have HK : Hid (p < 4294967296) := DL
        obtain ⟨A1, hA1⟩ : ∃ A, U * 4294967296 % 18446744073709551616 = A := ⟨_, rfl⟩
        obtain ⟨B1, hB1⟩ : ∃ A, p * Y % 18446744073709551616 = A := ⟨_, rfl⟩
        obtain ⟨V, hV⟩ : ∃ A, U * 4294967296 - p * Y = A := ⟨_, rfl⟩
        have hVl : V < 18446744073709551616 := by have := HY.out; omega
        have d1 := modw (z := (U : Int) * 4294967296) (n := U * 4294967296) (by simp) hA1
        have d2 := u64w A1 (by rw [← hA1]; exact Nat.mod_lt _ (by decide))
        have d3 := modw (z := (p : Int) * (Y : Int)) (n := p * Y) (by simp) hB1
        have d4 := rest_wrap hA1 hB1 hV DE hVl
        rw [hV] at DR
        have HV : Hid (V < Y) := DR
        have HV2 : Hid (U * 4294967296 - p * Y = V) := hV
        have J0 := step_start HD.out DR
        obtain ⟨q2, hq2⟩ : ∃ q, V / n1 = q := ⟨_, rfl⟩
        obtain ⟨r2, hr2⟩ : ∃ q, V % n1 = q := ⟨_, rfl⟩
        rw [hq2, hr2] at J0
        have d5 := divI hq2
        have d6 := u64w q2 (by have := J0.le; omega)
        have HI : Hid (StepI V Y n1 q2 r2) := J0
        obtain ⟨t2, ht2⟩ : ∃ t, q2 * n1 = t := ⟨_, rfl⟩
        have he := J0.eq
        rw [ht2] at he
        have d7 := u64w_mul ht2 (by omega)
        have d8 := u64w_sub (a := V) (b := t2) (c := r2) he (by omega)
        clear D DL DR DE hA1 hB1 hV hVl J0 hq2 hr2 he ht2
        go_upto_region 24 with fail
        clear d1 d2 d3 d4 d5 d6 d7 d8
        go_loop [18, 16] (fun qv rv => ∃ (q r : Nat), qv = .int .u64 (q : Nat) ∧ rv = .int .u64 (r : Nat) ∧ Hid (StepI V Y n1 q r)) (fun qv _ => (intOf qv).toNat)
        case atStart => exact ⟨q2, r2, rfl, rfl, HI⟩
        case round =>
          obtain ⟨qv, rv, rfl, rfl, I⟩ := hrel
          clear HI
          have hI := I.out
          by_cases hq : 4294967296 ≤ qv
          · have hq' : (qv : Int) ≥ 4294967296 := by omega
            obtain ⟨pv, hp, p1, p2, p3, p4⟩ := hI.less HD.out HV.out (.inl hq)
            obtain ⟨tv, ht⟩ : ∃ tv, rv + n1 = tv := ⟨_, rfl⟩
            have b1 := u64w_sub1 hp (by omega)
            have b2 := u64w_add ht (by omega)

            by_cases hb : rv + n1 < 4294967296
            · have I2 : Hid (StepI V Y n1 pv (rv + n1)) := StepI.on p1 p2 p3 hb
              rw [ht] at I2 hb
              have hb' : ¬ (tv : Int) ≥ 4294967296 := by omega
              have HM : Hid (qv = pv + 1) := hp
              clear I hI p1 p2 p3 p4 ht hp hq hb
              go_wp2
              go_round
              case rel => exact ⟨pv, tv, rfl, rfl, I2⟩
              case measure => have := HM.out; simp [intOf]; omega
            · have D : Hid (IsDig V Y pv) := dig_break HD.out p1 p2 p3 hb
              have hb' : (tv : Int) ≥ 4294967296 := by omega
              clear I hI p1 p2 p3 p4 ht hp hq hb
              have DL := D.out.lt HV.out
              obtain ⟨E, hE⟩ : ∃ E, p * 4294967296 = E := ⟨_, rfl⟩
              have f1 := u64w_rmul (K := 4294967296) rfl hE (by have := HK.out; omega)
              have hZ : E + pv = Z := by rw [← hE, ← HQ2.out]; exact (two_digs D1.out (by rw [HV2.out]; exact D.out)).symm
              have f2 := u64w_add hZ (by have := HK.out; omega)
              clear hE D DL hZ D1 HV2 HK
              go_wp2
              go_ret2
              exact ⟨⟨_, rfl⟩, rfl⟩
          · have hq' : ¬ (qv : Int) ≥ 4294967296 := by omega
            have hn0 := HD.out.n0
            have hrt := hI.lt
            obtain ⟨Av, hA⟩ : ∃ Av, qv * n0 = Av := ⟨_, rfl⟩
            obtain ⟨Cv, hC⟩ : ∃ Cv, 4294967296 * rv = Cv := ⟨_, rfl⟩
            have hAl : Av < 18446744073709551616 := by rw [← hA]; exact small_mul hq hn0
            have hCl : Cv < 18446744073709551616 := by omega
            have c1 := u64w_mul hA hAl
            have c2 := u64w_lmul (K := 4294967296) rfl hC hCl
            have c3 := u64w Cv hCl
            by_cases ht0 : Cv < Av
            · have ht0' : (Av : Int) > (Cv : Int) := by omega
              have ht1 : 4294967296 * rv < qv * n0 := by rw [hA, hC]; exact ht0
              clear hA hC hAl hCl hn0 hrt
              obtain ⟨pv, hp, p1, p2, p3, p4⟩ := hI.less HD.out HV.out (.inr ht1)
              obtain ⟨tv, ht⟩ : ∃ tv, rv + n1 = tv := ⟨_, rfl⟩
              have b1 := u64w_sub1 hp (by omega)
              have b2 := u64w_add ht (by omega)
              clear ht1 ht0
              by_cases hb : rv + n1 < 4294967296
              · have I2 : Hid (StepI V Y n1 pv (rv + n1)) := StepI.on p1 p2 p3 hb
                rw [ht] at I2 hb
                have hb' : ¬ (tv : Int) ≥ 4294967296 := by omega
                have HM : Hid (qv = pv + 1) := hp
                clear I hI p1 p2 p3 p4 ht hp hq hb
                go_wp2
                go_round
                case rel => exact ⟨pv, tv, rfl, rfl, I2⟩
                case measure => have := HM.out; simp [intOf]; omega
              · have D : Hid (IsDig V Y pv) := dig_break HD.out p1 p2 p3 hb
                have hb' : (tv : Int) ≥ 4294967296 := by omega
                clear I hI p1 p2 p3 p4 ht hp hq hb
                have DL := D.out.lt HV.out
                obtain ⟨E, hE⟩ : ∃ E, p * 4294967296 = E := ⟨_, rfl⟩
                have f1 := u64w_rmul (K := 4294967296) rfl hE (by have := HK.out; omega)
                have hZ : E + pv = Z := by rw [← hE, ← HQ2.out]; exact (two_digs D1.out (by rw [HV2.out]; exact D.out)).symm
                have f2 := u64w_add hZ (by have := HK.out; omega)
                clear hE D DL hZ D1 HV2 HK
                go_wp2
                go_ret2
                exact ⟨⟨_, rfl⟩, rfl⟩
            · have ht0' : ¬ (Av : Int) > (Cv : Int) := by omega
              have D : Hid (IsDig V Y qv) := hI.done HD.out (by rw [hA, hC]; omega)
              clear I hI hA hC hAl hCl hn0 hrt hq ht0
              have DL := D.out.lt HV.out
              obtain ⟨E, hE⟩ : ∃ E, p * 4294967296 = E := ⟨_, rfl⟩
              have f1 := u64w_rmul (K := 4294967296) rfl hE (by have := HK.out; omega)
              have hZ : E + qv = Z := by rw [← hE, ← HQ2.out]; exact (two_digs D1.out (by rw [HV2.out]; exact D.out)).symm
              have f2 := u64w_add hZ (by have := HK.out; omega)
              clear hE D DL hZ D1 HV2 HK
              go_wp2
              go_ret2
              exact ⟨⟨_, rfl⟩, rfl⟩
    · have hq' : ¬ (q : Int) ≥ 4294967296 := by omega
      have hn0 := HD.out.n0
      have hrt := hI.lt
      obtain ⟨A, hA⟩ : ∃ A, q * n0 = A := ⟨_, rfl⟩
      obtain ⟨C, hC⟩ : ∃ C, 4294967296 * r = C := ⟨_, rfl⟩
      have hAl : A < 18446744073709551616 := by rw [← hA]; exact small_mul hq hn0
      have hCl : C < 18446744073709551616 := by omega
      have c1 := u64w_mul hA hAl
      have c2 := u64w_lmul (K := 4294967296) rfl hC hCl
      have c3 := u64w C hCl
      by_cases ht0 : C < A
      · have ht0' : (A : Int) > (C : Int) := by omega
        have ht1 : 4294967296 * r < q * n0 := by rw [hA, hC]; exact ht0
        clear hA hC hAl hCl hn0 hrt
        obtain ⟨p, hp, p1, p2, p3, p4⟩ := hI.less HD.out HU.out (.inr ht1)
        obtain ⟨t, ht⟩ : ∃ t, r + n1 = t := ⟨_, rfl⟩
        have b1 := u64w_sub1 hp (by omega)
        have b2 := u64w_add ht (by omega)
        clear ht1 ht0
        by_cases hb : r + n1 < 4294967296
        · have I2 : Hid (StepI U Y n1 p (r + n1)) := StepI.on p1 p2 p3 hb
          rw [ht] at I2 hb
          have hb' : ¬ (t : Int) ≥ 4294967296 := by omega
          have HM : Hid (q = p + 1) := hp
          clear I hI p1 p2 p3 p4 ht hp hq hb
          go_wp2
          go_round
          case rel => exact ⟨p, t, rfl, rfl, I2⟩
          case measure => have := HM.out; simp [intOf]; omega
        · have D : Hid (IsDig U Y p) := dig_break HD.out p1 p2 p3 hb
          have hb' : (t : Int) ≥ 4294967296 := by omega
          clear I hI p1 p2 p3 p4 ht hp hq hb
          have DL := D.out.lt HU.out
          have DR := D.out.rest
          have DE := D.out.1
          have D1 : Hid (IsDig U Y p) := D
          have HK : Hid (p < 4294967296) := DL
          obtain ⟨A1, hA1⟩ : ∃ A, U * 4294967296 % 18446744073709551616 = A := ⟨_, rfl⟩
          obtain ⟨B1, hB1⟩ : ∃ A, p * Y % 18446744073709551616 = A := ⟨_, rfl⟩
          obtain ⟨V, hV⟩ : ∃ A, U * 4294967296 - p * Y = A := ⟨_, rfl⟩
          have hVl : V < 18446744073709551616 := by have := HY.out; omega
          have d1 := modw (z := (U : Int) * 4294967296) (n := U * 4294967296) (by simp) hA1
          have d2 := u64w A1 (by rw [← hA1]; exact Nat.mod_lt _ (by decide))
          have d3 := modw (z := (p : Int) * (Y : Int)) (n := p * Y) (by simp) hB1
          have d4 := rest_wrap hA1 hB1 hV DE hVl
          rw [hV] at DR
          have HV : Hid (V < Y) := DR
          have HV2 : Hid (U * 4294967296 - p * Y = V) := hV
          have J0 := step_start HD.out DR
          obtain ⟨q2, hq2⟩ : ∃ q, V / n1 = q := ⟨_, rfl⟩
          obtain ⟨r2, hr2⟩ : ∃ q, V % n1 = q := ⟨_, rfl⟩
          rw [hq2, hr2] at J0
          have d5 := divI hq2
          have d6 := u64w q2 (by have := J0.le; omega)
          have HI : Hid (StepI V Y n1 q2 r2) := J0
          obtain ⟨t2, ht2⟩ : ∃ t, q2 * n1 = t := ⟨_, rfl⟩
          have he := J0.eq
          rw [ht2] at he
          have d7 := u64w_mul ht2 (by omega)
          have d8 := u64w_sub (a := V) (b := t2) (c := r2) he (by omega)
          clear D DL DR DE hA1 hB1 hV hVl J0 hq2 hr2 he ht2
          go_upto_region 24 with fail
          clear d1 d2 d3 d4 d5 d6 d7 d8
          go_loop [18, 16] (fun qv rv => ∃ (q r : Nat), qv = .int .u64 (q : Nat) ∧ rv = .int .u64 (r : Nat) ∧ Hid (StepI V Y n1 q r)) (fun qv _ => (intOf qv).toNat)
          case atStart => exact ⟨q2, r2, rfl, rfl, HI⟩
          case round =>
            obtain ⟨qv, rv, rfl, rfl, I⟩ := hrel
            clear HI
            have hI := I.out
            by_cases hq : 4294967296 ≤ qv
            · have hq' : (qv : Int) ≥ 4294967296 := by omega
              obtain ⟨pv, hp, p1, p2, p3, p4⟩ := hI.less HD.out HV.out (.inl hq)
              obtain ⟨tv, ht⟩ : ∃ tv, rv + n1 = tv := ⟨_, rfl⟩
              have b1 := u64w_sub1 hp (by omega)
              have b2 := u64w_add ht (by omega)

              by_cases hb : rv + n1 < 4294967296
              · have I2 : Hid (StepI V Y n1 pv (rv + n1)) := StepI.on p1 p2 p3 hb
                rw [ht] at I2 hb
                have hb' : ¬ (tv : Int) ≥ 4294967296 := by omega
                have HM : Hid (qv = pv + 1) := hp
                clear I hI p1 p2 p3 p4 ht hp hq hb
                go_wp2
                go_round
                case rel => exact ⟨pv, tv, rfl, rfl, I2⟩
                case measure => have := HM.out; simp [intOf]; omega
              · have D : Hid (IsDig V Y pv) := dig_break HD.out p1 p2 p3 hb
                have hb' : (tv : Int) ≥ 4294967296 := by omega
                clear I hI p1 p2 p3 p4 ht hp hq hb
                have DL := D.out.lt HV.out
                obtain ⟨E, hE⟩ : ∃ E, p * 4294967296 = E := ⟨_, rfl⟩
                have f1 := u64w_rmul (K := 4294967296) rfl hE (by have := HK.out; omega)
                have hZ : E + pv = Z := by rw [← hE, ← HQ2.out]; exact (two_digs D1.out (by rw [HV2.out]; exact D.out)).symm
                have f2 := u64w_add hZ (by have := HK.out; omega)
                clear hE D DL hZ D1 HV2 HK
                go_wp2
                go_ret2
                exact ⟨⟨_, rfl⟩, rfl⟩
            · have hq' : ¬ (qv : Int) ≥ 4294967296 := by omega
              have hn0 := HD.out.n0
              have hrt := hI.lt
              obtain ⟨Av, hA⟩ : ∃ Av, qv * n0 = Av := ⟨_, rfl⟩
              obtain ⟨Cv, hC⟩ : ∃ Cv, 4294967296 * rv = Cv := ⟨_, rfl⟩
              have hAl : Av < 18446744073709551616 := by rw [← hA]; exact small_mul hq hn0
              have hCl : Cv < 18446744073709551616 := by omega
              have c1 := u64w_mul hA hAl
              have c2 := u64w_lmul (K := 4294967296) rfl hC hCl
              have c3 := u64w Cv hCl
              by_cases ht0 : Cv < Av
              · have ht0' : (Av : Int) > (Cv : Int) := by omega
                have ht1 : 4294967296 * rv < qv * n0 := by rw [hA, hC]; exact ht0
                clear hA hC hAl hCl hn0 hrt
                obtain ⟨pv, hp, p1, p2, p3, p4⟩ := hI.less HD.out HV.out (.inr ht1)
                obtain ⟨tv, ht⟩ : ∃ tv, rv + n1 = tv := ⟨_, rfl⟩
                have b1 := u64w_sub1 hp (by omega)
                have b2 := u64w_add ht (by omega)
                clear ht1 ht0
                by_cases hb : rv + n1 < 4294967296
                · have I2 : Hid (StepI V Y n1 pv (rv + n1)) := StepI.on p1 p2 p3 hb
                  rw [ht] at I2 hb
                  have hb' : ¬ (tv : Int) ≥ 4294967296 := by omega
                  have HM : Hid (qv = pv + 1) := hp
                  clear I hI p1 p2 p3 p4 ht hp hq hb
                  go_wp2
                  go_round
                  case rel => exact ⟨pv, tv, rfl, rfl, I2⟩
                  case measure => have := HM.out; simp [intOf]; omega
                · have D : Hid (IsDig V Y pv) := dig_break HD.out p1 p2 p3 hb
                  have hb' : (tv : Int) ≥ 4294967296 := by omega
                  clear I hI p1 p2 p3 p4 ht hp hq hb
                  have DL := D.out.lt HV.out
                  obtain ⟨E, hE⟩ : ∃ E, p * 4294967296 = E := ⟨_, rfl⟩
                  have f1 := u64w_rmul (K := 4294967296) rfl hE (by have := HK.out; omega)
                  have hZ : E + pv = Z := by rw [← hE, ← HQ2.out]; exact (two_digs D1.out (by rw [HV2.out]; exact D.out)).symm
                  have f2 := u64w_add hZ (by have := HK.out; omega)
                  clear hE D DL hZ D1 HV2 HK
                  go_wp2
                  go_ret2
                  exact ⟨⟨_, rfl⟩, rfl⟩
              · have ht0' : ¬ (Av : Int) > (Cv : Int) := by omega
                have D : Hid (IsDig V Y qv) := hI.done HD.out (by rw [hA, hC]; omega)
                clear I hI hA hC hAl hCl hn0 hrt hq ht0
                have DL := D.out.lt HV.out
                obtain ⟨E, hE⟩ : ∃ E, p * 4294967296 = E := ⟨_, rfl⟩
                have f1 := u64w_rmul (K := 4294967296) rfl hE (by have := HK.out; omega)
                have hZ : E + qv = Z := by rw [← hE, ← HQ2.out]; exact (two_digs D1.out (by rw [HV2.out]; exact D.out)).symm
                have f2 := u64w_add hZ (by have := HK.out; omega)
                clear hE D DL hZ D1 HV2 HK
                go_wp2
                go_ret2
                exact ⟨⟨_, rfl⟩, rfl⟩
      · have ht0' : ¬ (A : Int) > (C : Int) := by omega
        have D : Hid (IsDig U Y q) := hI.done HD.out (by rw [hA, hC]; omega)
        clear I hI hA hC hAl hCl hn0 hrt hq ht0
        have DL := D.out.lt HU.out
        have DR := D.out.rest
        have DE := D.out.1
        have D1 : Hid (IsDig U Y q) := D
        have HK : Hid (q < 4294967296) := DL
        obtain ⟨A1, hA1⟩ : ∃ A, U * 4294967296 % 18446744073709551616 = A := ⟨_, rfl⟩
        obtain ⟨B1, hB1⟩ : ∃ A, q * Y % 18446744073709551616 = A := ⟨_, rfl⟩
        obtain ⟨V, hV⟩ : ∃ A, U * 4294967296 - q * Y = A := ⟨_, rfl⟩
        have hVl : V < 18446744073709551616 := by have := HY.out; omega
        have d1 := modw (z := (U : Int) * 4294967296) (n := U * 4294967296) (by simp) hA1
        have d2 := u64w A1 (by rw [← hA1]; exact Nat.mod_lt _ (by decide))
        have d3 := modw (z := (q : Int) * (Y : Int)) (n := q * Y) (by simp) hB1
        have d4 := rest_wrap hA1 hB1 hV DE hVl
        rw [hV] at DR
        have HV : Hid (V < Y) := DR
        have HV2 : Hid (U * 4294967296 - q * Y = V) := hV
        have J0 := step_start HD.out DR
        obtain ⟨q2, hq2⟩ : ∃ q, V / n1 = q := ⟨_, rfl⟩
        obtain ⟨r2, hr2⟩ : ∃ q, V % n1 = q := ⟨_, rfl⟩
        rw [hq2, hr2] at J0
        have d5 := divI hq2
        have d6 := u64w q2 (by have := J0.le; omega)
        have HI : Hid (StepI V Y n1 q2 r2) := J0
        obtain ⟨t2, ht2⟩ : ∃ t, q2 * n1 = t := ⟨_, rfl⟩
        have he := J0.eq
        rw [ht2] at he
        have d7 := u64w_mul ht2 (by omega)
        have d8 := u64w_sub (a := V) (b := t2) (c := r2) he (by omega)
        clear D DL DR DE hA1 hB1 hV hVl J0 hq2 hr2 he ht2
        go_upto_region 24 with fail
        clear d1 d2 d3 d4 d5 d6 d7 d8
        go_loop [18, 16] (fun qv rv => ∃ (q r : Nat), qv = .int .u64 (q : Nat) ∧ rv = .int .u64 (r : Nat) ∧ Hid (StepI V Y n1 q r)) (fun qv _ => (intOf qv).toNat)
        case atStart => exact ⟨q2, r2, rfl, rfl, HI⟩
        case round =>
          obtain ⟨qv, rv, rfl, rfl, I⟩ := hrel
          clear HI
          have hI := I.out
          by_cases hq : 4294967296 ≤ qv
          · have hq' : (qv : Int) ≥ 4294967296 := by omega
            obtain ⟨pv, hp, p1, p2, p3, p4⟩ := hI.less HD.out HV.out (.inl hq)
            obtain ⟨tv, ht⟩ : ∃ tv, rv + n1 = tv := ⟨_, rfl⟩
            have b1 := u64w_sub1 hp (by omega)
            have b2 := u64w_add ht (by omega)

            by_cases hb : rv + n1 < 4294967296
            · have I2 : Hid (StepI V Y n1 pv (rv + n1)) := StepI.on p1 p2 p3 hb
              rw [ht] at I2 hb
              have hb' : ¬ (tv : Int) ≥ 4294967296 := by omega
              have HM : Hid (qv = pv + 1) := hp
              clear I hI p1 p2 p3 p4 ht hp hq hb
              go_wp2
              go_round
              case rel => exact ⟨pv, tv, rfl, rfl, I2⟩
              case measure => have := HM.out; simp [intOf]; omega
            · have D : Hid (IsDig V Y pv) := dig_break HD.out p1 p2 p3 hb
              have hb' : (tv : Int) ≥ 4294967296 := by omega
              clear I hI p1 p2 p3 p4 ht hp hq hb
              have DL := D.out.lt HV.out
              obtain ⟨E, hE⟩ : ∃ E, q * 4294967296 = E := ⟨_, rfl⟩
              have f1 := u64w_rmul (K := 4294967296) rfl hE (by have := HK.out; omega)
              have hZ : E + pv = Z := by rw [← hE, ← HQ2.out]; exact (two_digs D1.out (by rw [HV2.out]; exact D.out)).symm
              have f2 := u64w_add hZ (by have := HK.out; omega)
              clear hE D DL hZ D1 HV2 HK
              go_wp2
              go_ret2
              exact ⟨⟨_, rfl⟩, rfl⟩
          · have hq' : ¬ (qv : Int) ≥ 4294967296 := by omega
            have hn0 := HD.out.n0
            have hrt := hI.lt
            obtain ⟨Av, hA⟩ : ∃ Av, qv * n0 = Av := ⟨_, rfl⟩
            obtain ⟨Cv, hC⟩ : ∃ Cv, 4294967296 * rv = Cv := ⟨_, rfl⟩
            have hAl : Av < 18446744073709551616 := by rw [← hA]; exact small_mul hq hn0
            have hCl : Cv < 18446744073709551616 := by omega
            have c1 := u64w_mul hA hAl
            have c2 := u64w_lmul (K := 4294967296) rfl hC hCl
            have c3 := u64w Cv hCl
            by_cases ht0 : Cv < Av
            · have ht0' : (Av : Int) > (Cv : Int) := by omega
              have ht1 : 4294967296 * rv < qv * n0 := by rw [hA, hC]; exact ht0
              clear hA hC hAl hCl hn0 hrt
              obtain ⟨pv, hp, p1, p2, p3, p4⟩ := hI.less HD.out HV.out (.inr ht1)
              obtain ⟨tv, ht⟩ : ∃ tv, rv + n1 = tv := ⟨_, rfl⟩
              have b1 := u64w_sub1 hp (by omega)
              have b2 := u64w_add ht (by omega)
              clear ht1 ht0
              by_cases hb : rv + n1 < 4294967296
              · have I2 : Hid (StepI V Y n1 pv (rv + n1)) := StepI.on p1 p2 p3 hb
                rw [ht] at I2 hb
                have hb' : ¬ (tv : Int) ≥ 4294967296 := by omega
                have HM : Hid (qv = pv + 1) := hp
                clear I hI p1 p2 p3 p4 ht hp hq hb
                go_wp2
                go_round
                case rel => exact ⟨pv, tv, rfl, rfl, I2⟩
                case measure => have := HM.out; simp [intOf]; omega
              · have D : Hid (IsDig V Y pv) := dig_break HD.out p1 p2 p3 hb
                have hb' : (tv : Int) ≥ 4294967296 := by omega
                clear I hI p1 p2 p3 p4 ht hp hq hb
                have DL := D.out.lt HV.out
                obtain ⟨E, hE⟩ : ∃ E, q * 4294967296 = E := ⟨_, rfl⟩
                have f1 := u64w_rmul (K := 4294967296) rfl hE (by have := HK.out; omega)
                have hZ : E + pv = Z := by rw [← hE, ← HQ2.out]; exact (two_digs D1.out (by rw [HV2.out]; exact D.out)).symm
                have f2 := u64w_add hZ (by have := HK.out; omega)
                clear hE D DL hZ D1 HV2 HK
                go_wp2
                go_ret2
                exact ⟨⟨_, rfl⟩, rfl⟩
            · have ht0' : ¬ (Av : Int) > (Cv : Int) := by omega
              have D : Hid (IsDig V Y qv) := hI.done HD.out (by rw [hA, hC]; omega)
              clear I hI hA hC hAl hCl hn0 hrt hq ht0
              have DL := D.out.lt HV.out
              obtain ⟨E, hE⟩ : ∃ E, q * 4294967296 = E := ⟨_, rfl⟩
              have f1 := u64w_rmul (K := 4294967296) rfl hE (by have := HK.out; omega)
              have hZ : E + qv = Z := by rw [← hE, ← HQ2.out]; exact (two_digs D1.out (by rw [HV2.out]; exact D.out)).symm
              have f2 := u64w_add hZ (by have := HK.out; omega)
              clear hE D DL hZ D1 HV2 HK
              go_wp2
              go_ret2
              exact ⟨⟨_, rfl⟩, rfl⟩

end

section
/-
  The shares of the degrees: mathematics.
-/

def part (F E i : Nat) : Nat := (F * E - 1000) * (F - 1) * i + 1000 * (F + 1) * F * (i - 1)
def whole (F E i : Nat) : Nat := F * (1000 + E) * (F - 1) * i
def share64 (P W : Nat) : Nat := P * 18446744073709551616 / W
def belowN (F E i : Nat) : Nat := share64 (part F E i) (whole F E i)

/-- The limits. -/
structure MayD (F E : Nat) : Prop where
  f2 : 2 ≤ F
  f4 : F ≤ 4096
  e1 : 1 ≤ E
  e2 : E ≤ 1000
  fe : 1000 < F * E

theorem mul_le4 {a b c d : Nat} (h : a ≤ b) (k : c ≤ d) : a * c ≤ b * d := Nat.mul_le_mul h k

theorem poly1 (d j x E : Nat) (hx : (d + j + 2) * E = x + 1000) : (d + j + 2) * (1000 + E) * (d + j + 1) * (j + 1) = x * (d + j + 1) * (j + 1) + 1000 * (d + j + 3) * (d + j + 2) * j + 1000 * (d + j + 3) * (d + 1) := by
  have e : (d + j + 2) * (1000 + E) = 1000 * (d + j + 2) + (x + 1000) := by grind
  rw [e]
  grind

theorem whole_part {F E i : Nat} (h : MayD F E) (h1 : 1 ≤ i) (h2 : i < F) : whole F E i = part F E i + 1000 * (F + 1) * (F - i) := by
  obtain ⟨a1, a2, a3, a4, a5⟩ := h
  obtain ⟨j, rfl⟩ : ∃ j, i = j + 1 := ⟨i - 1, by omega⟩
  obtain ⟨d, rfl⟩ : ∃ d, F = d + j + 2 := ⟨F - (j + 2), by omega⟩
  obtain ⟨x, hx⟩ : ∃ x, (d + j + 2) * E = x + 1000 := ⟨(d + j + 2) * E - 1000, by omega⟩
  have e1 : (d + j + 2) * E - 1000 = x := by omega
  have e2 : d + j + 2 - 1 = d + j + 1 := by omega
  have e3 : j + 1 - 1 = j := by omega
  have e4 : d + j + 2 - (j + 1) = d + 1 := by omega
  have e5 : d + j + 2 + 1 = d + j + 3 := by omega
  unfold whole part
  rw [e1, e2, e3, e4, e5]
  exact poly1 d j x E hx

theorem part_pos {F E i : Nat} (h : MayD F E) (h1 : 1 ≤ i) : 1 ≤ part F E i := by
  obtain ⟨a1, a2, a3, a4, a5⟩ := h
  unfold part
  have b : 1 ≤ (F * E - 1000) * (F - 1) * i := Nat.mul_pos (Nat.mul_pos (by omega) (by omega)) h1
  exact Nat.le_trans b (Nat.le_add_right _ _)

theorem part_lt {F E i : Nat} (h : MayD F E) (h1 : 1 ≤ i) (h2 : i < F) : part F E i < whole F E i := by
  rw [whole_part h h1 h2]
  have b : 1 ≤ 1000 * (F + 1) * (F - i) := Nat.mul_pos (Nat.mul_pos (by omega) (by omega)) (by omega)
  exact Nat.lt_add_of_pos_right b

theorem whole_le {F E i : Nat} (h : MayD F E) (h2 : i ≤ F) : whole F E i ≤ 200000000000000 ∧ F * (1000 + E) * (F - 1) ≤ 40000000000 := by
  obtain ⟨a1, a2, a3, a4, a5⟩ := h
  have b1 : F * (1000 + E) ≤ 4096 * 2000 := Nat.mul_le_mul a2 (by omega)
  have b2 : F * (1000 + E) * (F - 1) ≤ 4096 * 2000 * 4095 := Nat.mul_le_mul b1 (by omega)
  have b3 : F * (1000 + E) * (F - 1) * i ≤ 4096 * 2000 * 4095 * 4096 := Nat.mul_le_mul b2 (by omega)
  exact ⟨Nat.le_trans b3 (by decide), Nat.le_trans b2 (by decide)⟩

/-- All numbers on the way. -/
structure Reck (F E i x1 x2 f1 x3 x4 y1 y2 y3 i1 y4 z1 z2 z3 : Nat) : Prop where
  ex1 : F * E = x1
  ex2 : 1000 + x2 = x1
  ef1 : F = f1 + 1
  ex3 : x2 * f1 = x3
  ex4 : x3 * i = x4
  ey1 : F + 1 = y1
  ey2 : 1000 * y1 = y2
  ey3 : y2 * F = y3
  ei1 : i = i1 + 1
  ey4 : y3 * i1 = y4
  ep : x4 + y4 = part F E i
  ez1 : 1000 + E = z1
  ez2 : F * z1 = z2
  ez3 : z2 * f1 = z3
  ez : z3 * i = whole F E i
  bx1 : x1 < 1000000000000000000
  bx3 : x3 < 1000000000000000000
  bx4 : x4 < 1000000000000000000
  by3 : y3 < 1000000000000000000
  by4 : y4 < 1000000000000000000
  bz2 : z2 < 1000000000000000000
  bz3 : z3 < 1000000000000000000
  bz : whole F E i < 1000000000000000000

theorem reck {F E i : Nat} (h : MayD F E) (h1 : 1 ≤ i) (h2 : i < F) : ∃ x1 x2 f1 x3 x4 y1 y2 y3 i1 y4 z1 z2 z3, Reck F E i x1 x2 f1 x3 x4 y1 y2 y3 i1 y4 z1 z2 z3 := by
  obtain ⟨a1, a2, a3, a4, a5⟩ := h
  have c1 : F * E ≤ 4096 * 1000 := Nat.mul_le_mul a2 a4
  have c2 : (F * E - 1000) * (F - 1) ≤ 4096000 * 4095 := Nat.mul_le_mul (by omega) (by omega)
  have c3 : (F * E - 1000) * (F - 1) * i ≤ 4096000 * 4095 * 4095 := Nat.mul_le_mul c2 (by omega)
  have d1 : 1000 * (F + 1) * F ≤ 4097000 * 4096 := Nat.mul_le_mul (by omega) a2
  have d2 : 1000 * (F + 1) * F * (i - 1) ≤ 4097000 * 4096 * 4094 := Nat.mul_le_mul d1 (by omega)
  have b1 : F * (1000 + E) ≤ 4096 * 2000 := Nat.mul_le_mul a2 (by omega)
  have b2 : F * (1000 + E) * (F - 1) ≤ 4096 * 2000 * 4095 := Nat.mul_le_mul b1 (by omega)
  have b3 : F * (1000 + E) * (F - 1) * i ≤ 4096 * 2000 * 4095 * 4096 := Nat.mul_le_mul b2 (by omega)
  have big : ∀ n m : Nat, n ≤ m → m < 1000000000000000000 → n < 1000000000000000000 := fun n m => Nat.lt_of_le_of_lt
  exact ⟨_, F * E - 1000, F - 1, _, _, _, _, _, i - 1, _, _, _, _, rfl, by omega, by omega, rfl, rfl, rfl, rfl, rfl, by omega, rfl, rfl, rfl, rfl, rfl, rfl, big _ _ c1 (by decide), big _ _ c2 (by decide), big _ _ c3 (by decide), big _ _ d1 (by decide), big _ _ d2 (by decide), big _ _ b1 (by decide), big _ _ b2 (by decide), big _ _ b3 (by decide)⟩

theorem share_lt_core {A B W W' : Nat} (hW : 0 < W) (hW' : 0 < W') (h : A * W' + W * W' ≤ B * W) : A / W < B / W' := by
  have q := Nat.div_mul_le_self A W
  generalize A / W = x at *
  have a : (x + 1) * W' * W ≤ B * W := by
    have b : x * W * W' ≤ A * W' := Nat.mul_le_mul_right _ q
    have e : (x + 1) * W' * W = x * W * W' + W * W' := by grind
    rw [e]
    omega
  exact (Nat.le_div_iff_mul_le hW').2 (Nat.le_of_mul_le_mul_right a hW)

theorem share_le_core {P W P' W' : Nat} (N : Nat) (hW : 0 < W) (hW' : 0 < W') (h : P * W' ≤ P' * W) : P * N / W ≤ P' * N / W' := by
  have q := Nat.div_mul_le_self (P * N) W
  generalize P * N / W = x at *
  have a : x * W' * W ≤ P' * N * W := by
    have b : x * W * W' ≤ P * N * W' := Nat.mul_le_mul_right _ q
    have c : P * W' * N ≤ P' * W * N := Nat.mul_le_mul_right _ h
    have e : x * W' * W = x * W * W' := Nat.mul_right_comm _ _ _
    have f : P * N * W' = P * W' * N := Nat.mul_right_comm _ _ _
    have g : P' * N * W = P' * W * N := Nat.mul_right_comm _ _ _
    rw [e, g]
    rw [f] at b
    exact Nat.le_trans b c
  exact (Nat.le_div_iff_mul_le hW').2 (Nat.le_of_mul_le_mul_right a hW)

theorem share_lt {P W P' W' : Nat} (hW : 0 < W) (hW' : 0 < W') (h : P * 18446744073709551616 * W' + W * W' ≤ P' * 18446744073709551616 * W) : share64 P W < share64 P' W' := share_lt_core hW hW' h

theorem share_le {P W P' W' : Nat} (hW : 0 < W) (hW' : 0 < W') (h : P * W' ≤ P' * W) : share64 P W ≤ share64 P' W' := share_le_core _ hW hW' h

theorem share_lt64 {P W : Nat} (h : P < W) : share64 P W < 18446744073709551616 := by
  unfold share64
  rw [Nat.div_lt_iff_lt_mul (by omega), Nat.mul_comm]
  exact (Nat.mul_lt_mul_left (by decide)).2 h

theorem share_pos {P W : Nat} (h : 1 ≤ P) (h1 : 0 < W) (h2 : W ≤ 18446744073709551616) : 1 ≤ share64 P W := by
  unfold share64
  rw [Nat.le_div_iff_mul_le h1, Nat.one_mul]
  exact Nat.le_trans h2 (Nat.le_mul_of_pos_left _ h)

theorem poly2 (P P' W D e i : Nat) (h : W * i = P + D * (e + 1)) (k : W * (i + 1) = P' + D * e) : P' * (W * i) = P * (W * (i + 1)) + D * W * (e + i + 1) := by
  have h' : (P : Int) = W * i - D * (e + 1) := by
    have : ((W * i : Nat) : Int) = ((P + D * (e + 1) : Nat) : Int) := by rw [h]
    simp only [Int.natCast_mul, Int.natCast_add, Int.natCast_one] at this
    omega
  have k' : (P' : Int) = W * (i + 1) - D * e := by
    have : ((W * (i + 1) : Nat) : Int) = ((P' + D * e : Nat) : Int) := by rw [k]
    simp only [Int.natCast_mul, Int.natCast_add, Int.natCast_one] at this
    omega
  apply Int.ofNat.inj
  show ((P' * (W * i) : Nat) : Int) = ((P * (W * (i + 1)) + D * W * (e + i + 1) : Nat) : Int)
  simp only [Int.natCast_mul, Int.natCast_add, Int.natCast_one]
  rw [h', k']
  grind

theorem below_lt {F E i : Nat} (h : MayD F E) (h1 : 1 ≤ i) (h2 : i < F) : belowN F E i < 18446744073709551616 := share_lt64 (part_lt h h1 h2)

theorem below_pos {F E i : Nat} (h : MayD F E) (h1 : 1 ≤ i) (h2 : i < F) : 1 ≤ belowN F E i := by
  have a := (whole_le (i := i) h (by omega)).1
  have b := part_lt h h1 h2
  exact share_pos (part_pos h h1) (by omega) (by omega)

theorem below_core {P P' W D e i F : Nat} (N : Nat) (a1 : W * i = P + D * (e + 1)) (a2 : W * (i + 1) = P' + D * e) (he : F = e + i + 1) (hw : W ≤ 40000000000) (hD : 1 ≤ D) (hf4 : F ≤ 4096) (hN : 40000000000 * (4096 * 4096) ≤ N) : P * N * (W * (i + 1)) + W * i * (W * (i + 1)) ≤ P' * N * (W * i) := by
  have hp := poly2 P P' W D e i a1 a2
  rw [← he] at hp
  have e1 : P' * N * (W * i) = P' * (W * i) * N := Nat.mul_right_comm _ _ _
  have e2 : P * N * (W * (i + 1)) = P * (W * (i + 1)) * N := Nat.mul_right_comm _ _ _
  rw [e1, e2, hp, Nat.add_mul]
  apply Nat.add_le_add_left
  have b1 : W * (i * (i + 1)) ≤ 40000000000 * (4096 * 4096) := Nat.mul_le_mul hw (Nat.mul_le_mul (by omega) (by omega))
  have b2 : W * i * (W * (i + 1)) = W * (W * (i * (i + 1))) := by grind
  have b3 : W * (W * (i * (i + 1))) ≤ W * N := Nat.mul_le_mul_left _ (Nat.le_trans b1 hN)
  have b4 : W * N ≤ D * W * F * N := by
    apply Nat.mul_le_mul_right
    have c1 : 1 ≤ D * F := Nat.mul_pos hD (by omega)
    have c2 : W * 1 ≤ W * (D * F) := Nat.mul_le_mul_left _ c1
    have c3 : D * W * F = W * (D * F) := by grind
    rw [c3]
    omega
  rw [b2]
  exact Nat.le_trans b3 b4

theorem below_next {F E i : Nat} (h : MayD F E) (h1 : 1 ≤ i) (h2 : i + 1 < F) : belowN F E i < belowN F E (i + 1) := by
  have a1 := whole_part h h1 (by omega)
  have a2 := whole_part h (show 1 ≤ i + 1 by omega) h2
  have l1 := part_lt h h1 (by omega)
  have l2 := part_lt h (show 1 ≤ i + 1 by omega) h2
  have hw := (whole_le (i := i) h (by omega)).2
  obtain ⟨e, he⟩ : ∃ e, F = e + i + 1 := ⟨F - (i + 1), by omega⟩
  have he1 : F - i = e + 1 := by omega
  have he2 : F - (i + 1) = e := by omega
  rw [he1] at a1
  rw [he2] at a2
  exact share_lt (by omega) (by omega) (below_core 18446744073709551616 a1 a2 he hw (by omega) h.f4 (by decide))

theorem below_mono {F E : Nat} (h : MayD F E) {i j : Nat} (h1 : 1 ≤ i) (h2 : i ≤ j) (h3 : j < F) : belowN F E i ≤ belowN F E j := by
  induction j with
  | zero => omega
  | succ j ih =>
    by_cases e : i = j + 1
    · rw [e]; exact Nat.le_refl _
    · have a := ih (by omega) (by omega)
      have b := below_next h (show 1 ≤ j by omega) h3
      omega

theorem below_eps {F E G i : Nat} (h : MayD F E) (k : MayD F G) (hEG : E ≤ G) (h1 : 1 ≤ i) (h2 : i < F) : belowN F E i ≤ belowN F G i := by
  have a1 := whole_part h h1 h2
  have a2 := whole_part k h1 h2
  have l1 := part_lt h h1 h2
  have l2 := part_lt k h1 h2
  have hw : whole F E i ≤ whole F G i := by
    unfold whole
    exact Nat.mul_le_mul_right _ (Nat.mul_le_mul_right _ (Nat.mul_le_mul_left _ (by omega)))
  unfold belowN
  apply share_le (by omega) (by omega)
  generalize 1000 * (F + 1) * (F - i) = X at *
  rw [a1, a2, Nat.mul_add, Nat.mul_add, Nat.mul_comm (part F G i) (part F E i)]
  exact Nat.add_le_add_left (Nat.mul_le_mul_right _ (by omega)) _

/-- The degree of a number. -/
structure DegAt (F E u d : Nat) : Prop where
  lo : 1 ≤ d
  hi : d ≤ F
  past : ∀ i, 1 ≤ i → i < d → belowN F E i ≤ u
  at_ : d < F → u < belowN F E d

theorem DegAt.le {F E u v d e : Nat} (h : DegAt F E u d) (k : DegAt F E v e) (huv : u ≤ v) : d ≤ e := by
  rcases Nat.lt_or_ge e d with hlt | hge
  · have a := h.past e k.lo hlt
    have b := k.at_ (by have := h.hi; omega)
    omega
  · exact hge

theorem DegAt.uniq {F E u d e : Nat} (h : DegAt F E u d) (k : DegAt F E u e) : d = e := Nat.le_antisymm (h.le k (Nat.le_refl _)) (k.le h (Nat.le_refl _))

end

section
/-
  degree: share, Below, Most, New; the document's Share and Below.
-/
open Go.RowKit
set_option linter.unusedVariables false

/-- A table at a block: F and Eps. -/
structure IsDT (w : World) (a F E : Nat) : Prop where
  c0 : w.cell? ⟨a, 0, none⟩ = some (.int .i64 (F : Int))
  c1 : w.cell? ⟨a, 1, none⟩ = some (.int .i64 (E : Int))

theorem IsDT.kept {w w' : World} {a F E : Nat} (h : IsDT w a F E) (hk : w'.heap[a]? = w.heap[a]?) : IsDT w' a F E :=
  ⟨(World.cell?_of_block (a := ⟨a, 0, none⟩) hk).trans h.c0, (World.cell?_of_block (a := ⟨a, 1, none⟩) hk).trans h.c1⟩
theorem IsDT.below {w w' : World} {a F E : Nat} (h : IsDT w a F E) (hb : Below w.heap.size w w') : IsDT w' a F E := h.kept (hb.block a (cell_block_lt h.c0))
theorem IsDT.keeps {w w' : World} {a F E : Nat} {S : Nat → Prop} (h : IsDT w a F E) (hb : KeepsBut S w w') (hS : ¬ S a) : IsDT w' a F E := h.kept (hb.block a (cell_block_lt h.c0) hS)

set_option maxRecDepth 100000 in
set_option maxHeartbeats 1000000 in
/-- share. -/
theorem dshare_any (a F E i : Nat) (w : World) (h : IsDT w a F E) (hm : MayD F E) (h1 : 1 ≤ i) (h2 : i < F) :
    Calls Tryz.prog 95 #[.pointer (some ⟨a, 0, none⟩), .int .i64 (i : Nat)] w fun e w' => e = .returned (.tuple #[.int .u64 (part F E i : Nat), .int .u64 (whole F E i : Nat)]) ∧ Below w.heap.size w w' := by
  have h0 := h.c0
  have h01 := h.c1
  obtain ⟨x1, x2, f1, x3, x4, y1, y2, y3, i1, y4, z1, z2, z3, R⟩ := reck hm h1 h2
  have hf4 := hm.f4
  have he2 := hm.e2
  have b1 := part_lt hm h1 h2
  have g1 := u64w_mul R.ex1 (by have := R.bx1; omega)
  have g2 : IntKind.u64.wrap ((x1 : Int) - 1000) = x2 := u64w_of (by have := R.ex2; omega) (by have := R.ex2; have := R.bx1; omega)
  have g3 := u64w_sub1 R.ef1 (by have := R.ef1; omega)
  have g4 := u64w_mul R.ex3 (by have := R.bx3; omega)
  have g5 := u64w_mul R.ex4 (by have := R.bx4; omega)
  have g6 : IntKind.u64.wrap ((F : Int) + 1) = y1 := u64w_of (by have := R.ey1; omega) (by have := R.ey1; omega)
  have g7 := u64w_lmul (K := 1000) rfl R.ey2 (by have := R.ey1; have := R.ey2; omega)
  have g8 := u64w_mul R.ey3 (by have := R.by3; omega)
  have g9 := u64w_sub1 R.ei1 (by have := R.ei1; omega)
  have g10 := u64w_mul R.ey4 (by have := R.by4; omega)
  have g11 := u64w_add R.ep (by have := R.bz; omega)
  have g12 : IntKind.u64.wrap (1000 + (E : Int)) = z1 := u64w_of (by have := R.ez1; omega) (by have := R.ez1; omega)
  have g13 := u64w_mul R.ez2 (by have := R.bz2; omega)
  have g14 := u64w_mul R.ez3 (by have := R.bz3; omega)
  have g15 := u64w_mul R.ez (by have := R.bz; omega)
  have g16 := u64w F (by omega)
  have g17 := u64w E (by omega)
  have g18 := u64w i (by omega)
  generalize part F E i = P at *
  generalize whole F E i = W at *
  clear R b1 hf4 he2 h1 h2 hm h
  go_enter Tryz.func95, Tryz.ntmps95
  go_wp2_with fail
  go_region
  go_wp2
  go_ret2
  exact ⟨rfl, below0 _⟩

end

section
/-
  degree: Below, New; the document's Share and Below.
-/
open Go.RowKit
set_option linter.unusedVariables false

set_option maxRecDepth 100000 in
set_option maxHeartbeats 1000000 in
/-- Below: there is none such. -/
theorem dbelow_no (a F E : Nat) (i : Int) (w : World) (h : IsDT w a F E) (hi : i < 1 ∨ (F : Int) ≤ i) :
    Calls Tryz.prog 77 #[.pointer (some ⟨a, 0, none⟩), .int .i64 i] w fun e w' => e = .returned (.tuple #[.int .u64 0, .bool false]) ∧ Below w.heap.size w w' := by
  have h0 := h.c0
  clear h
  by_cases h1 : i < 1
  · clear hi
    go_enter Tryz.func77, Tryz.ntmps77
    go_wp2
    go_ret2
    exact ⟨rfl, Below.refl _ _⟩
  · have h2 : i ≥ (F : Int) := by omega
    clear hi
    go_enter Tryz.func77, Tryz.ntmps77
    go_wp2
    go_ret2
    exact ⟨rfl, Below.refl _ _⟩

set_option maxRecDepth 100000 in
set_option maxHeartbeats 1000000 in
/-- Below. -/
theorem dbelow_yes (a F E i : Nat) (w : World) (h : IsDT w a F E) (hm : MayD F E) (h1 : 1 ≤ i) (h2 : i < F) :
    Calls Tryz.prog 77 #[.pointer (some ⟨a, 0, none⟩), .int .i64 (i : Nat)] w fun e w' => e = .returned (.tuple #[.int .u64 (belowN F E i : Nat), .bool true]) ∧ Below w.heap.size w w' := by
  have h0 := h.c0
  have hs := dshare_any a F E i w h hm h1 h2
  have HS : Hid (Calls Tryz.prog 95 #[.pointer (some ⟨a, 0, none⟩), .int .i64 (i : Nat)] w fun e w' => e = .returned (.tuple #[.int .u64 (part F E i : Nat), .int .u64 (whole F E i : Nat)]) ∧ Below w.heap.size w w') := hs
  have p1 := part_pos hm h1
  have p2 := part_lt hm h1 h2
  have p3 := (whole_le (i := i) hm (by omega)).1
  have HD : Hid (∀ W, Calls Tryz.prog 96 #[.int .u64 (part F E i : Nat), .int .u64 0, .int .u64 (whole F E i : Nat)] W fun e w' => ∃ r : Int, e = .returned (.tuple #[.int .u64 (belowN F E i : Nat), .int .u64 r]) ∧ w' = W) := fun W => div64_top _ _ W p1 p2 (by omega)
  clear hs p1 p2 p3 hm h
  generalize belowN F E i = b at *
  generalize part F E i = P at *
  generalize whole F E i = W at *
  have i1 : ¬ (i : Int) < 1 := by omega
  have i2 : ¬ (i : Int) ≥ (F : Int) := by omega
  clear h1 h2
  go_enter Tryz.func77, Tryz.ntmps77
  go_wp2_with fail
  refine HS.out.mono ?_
  rintro e w1 ⟨rfl, hb⟩
  have HB : Hid (Below w.heap.size w w1) := hb
  clear hb
  go_wp2_with fail
  refine (HD.out _).mono ?_
  rintro e w2 ⟨r, rfl, rfl⟩
  go_wp2
  go_ret2
  exact ⟨rfl, HB.out⟩

/-- Behind k rounds. -/
def ShareI (n of k out left : Nat) : Prop := n * 2 ^ k = out * of + left ∧ left < of ∧ out < 2 ^ k

theorem shareI_start {n of : Nat} (h : n < of) : ShareI n of 0 0 n := ⟨by simp, h, by decide⟩
theorem ShareI.no {n of k out left : Nat} (h : ShareI n of k out left) (h1 : left * 2 < of) : ShareI n of (k + 1) (out * 2) (left * 2) := by
  obtain ⟨a, b, c⟩ := h
  refine ⟨?_, h1, by rw [Nat.pow_succ]; omega⟩
  rw [Nat.pow_succ, ← Nat.mul_assoc, a, Nat.add_mul, Nat.mul_right_comm]
theorem ShareI.yes {n of k out left : Nat} (h : ShareI n of k out left) (h1 : ¬ left * 2 < of) : ShareI n of (k + 1) (out * 2 + 1) (left * 2 - of) := by
  obtain ⟨a, b, c⟩ := h
  refine ⟨?_, by omega, by rw [Nat.pow_succ]; omega⟩
  rw [Nat.pow_succ, ← Nat.mul_assoc, a, Nat.add_mul, Nat.mul_right_comm, Nat.add_mul, Nat.one_mul, Nat.add_assoc]
  congr 1
  omega
theorem ShareI.done {n of out left : Nat} (h : ShareI n of 64 out left) : share64 n of = out := by
  obtain ⟨a, b, c⟩ := h
  have a' : n * 18446744073709551616 = out * of + left := a
  unfold share64
  rw [a']
  exact Nat.div_eq_of_lt_le (Nat.le_add_right _ _) (by rw [Nat.succ_mul]; exact Nat.add_lt_add_left b _)

theorem pow63 {k : Nat} (h : k < 64) : 2 ^ k ≤ 9223372036854775808 := Nat.pow_le_pow_right (n := 2) (j := 63) (by decide) (by omega)

set_option maxRecDepth 100000 in
set_option maxHeartbeats 1000000 in
/-- The document's Share. -/
theorem rshare_any (n m : Nat) (w : World) (h : n < m) (hm : m ≤ 9223372036854775808) :
    Calls Tryz.prog 74 #[.int .u64 (n : Nat), .int .u64 (m : Nat)] w fun e w' => e = .returned (.int .u64 (share64 n m : Nat)) ∧ w' = w := by
  obtain ⟨Z, hZ⟩ : ∃ Z, share64 n m = Z := ⟨_, rfl⟩
  rw [hZ]
  have HZ : Hid (share64 n m = Z) := hZ
  have HM : Hid (m ≤ 9223372036854775808) := hm
  have HS : Hid (ShareI n m 0 0 n) := shareI_start h
  clear hZ hm h
  go_enter Tryz.func74, Tryz.ntmps74
  go_wp2
  go_loop [5, 6, 7] (fun ov lv i => ∃ (k out left : Nat), i = .int .i64 k ∧ k ≤ 64 ∧ ov = .int .u64 (out : Nat) ∧ lv = .int .u64 (left : Nat) ∧ Hid (ShareI n m k out left)) (fun _ _ i => 64 - (intOf i).toNat)
  case atStart => exact ⟨0, 0, n, rfl, by omega, rfl, rfl, HS⟩
  case round =>
    obtain ⟨k, out, left, rfl, hk, rfl, rfl, I⟩ := hrel
    clear HS
    by_cases hlt : k < 64
    · obtain ⟨q1, q2, q3⟩ := I.out
      have hp := pow63 hlt
      obtain ⟨a, ha⟩ : ∃ a, left * 2 = a := ⟨_, rfl⟩
      obtain ⟨b, hb⟩ : ∃ b, out * 2 = b := ⟨_, rfl⟩
      have hmm := HM.out
      have g1 := u64w_rmul (K := 2) rfl ha (by omega)
      have g2 := u64w_rmul (K := 2) rfl hb (by omega)
      by_cases hd : left * 2 < m
      · have I2 := I.out.no hd
        rw [ha, hb] at I2
        have J : Hid (ShareI n m (k + 1) b a) := I2
        have hd' : ¬ (a : Int) ≥ (m : Int) := by omega
        clear I q1 q2 q3 hp ha hb hmm hd I2
        go_wp2
        go_round
        case rel => exact ⟨k + 1, b, a, by go_num, by omega, rfl, rfl, J⟩
        case measure => simp [intOf]; omega
      · have I2 := I.out.yes hd
        obtain ⟨c, hc⟩ : ∃ c, left * 2 - m = c := ⟨_, rfl⟩
        rw [hb, hc] at I2
        have J : Hid (ShareI n m (k + 1) (b + 1) c) := I2
        have hd' : (a : Int) ≥ (m : Int) := by omega
        have g3 := u64w_sub (a := a) (b := m) (c := c) (by omega) (by omega)
        have g4 : IntKind.u64.wrap ((b : Int) + 1) = ((b + 1 : Nat) : Int) := u64w_of (by simp) (by omega)
        clear I q1 q2 q3 hp ha hb hmm hd I2 hc
        generalize b + 1 = b' at *
        go_wp2
        go_round
        case rel => exact ⟨k + 1, b', c, by go_num, by omega, rfl, rfl, J⟩
        case measure => simp [intOf]; omega
    · obtain rfl : k = 64 := by omega
      have hz := I.out.done
      rw [HZ.out] at hz
      subst hz
      clear I HZ
      go_wp2
      go_ret
      exact ⟨rfl, rfl⟩

set_option maxRecDepth 100000 in
set_option maxHeartbeats 1000000 in
/-- The document's Below. -/
theorem rdbelow_any (N B Q : Int) (F E i : Nat) (w : World) (hm : MayD F E) (h1 : 1 ≤ i) (h2 : i < F) :
    Calls Tryz.prog 55 #[.agg #[.int .i64 N, .int .i64 B, .int .i64 Q, .int .i64 (E : Nat), .int .i64 (F : Nat)], .int .i64 (i : Nat)] w fun e w' => e = .returned (.int .u64 (belowN F E i : Nat)) ∧ Below w.heap.size w w' := by
  obtain ⟨x1, x2, f1, x3, x4, y1, y2, y3, i1, y4, z1, z2, z3, R⟩ := reck hm h1 h2
  have hf4 := hm.f4
  have he2 := hm.e2
  have b1 := part_lt hm h1 h2
  have g1 := u64w_mul R.ex1 (by have := R.bx1; omega)
  have g2 : IntKind.u64.wrap ((x1 : Int) - 1000) = x2 := u64w_of (by have := R.ex2; omega) (by have := R.ex2; have := R.bx1; omega)
  have g3 := u64w_sub1 R.ef1 (by have := R.ef1; omega)
  have g4 := u64w_mul R.ex3 (by have := R.bx3; omega)
  have g5 := u64w_mul R.ex4 (by have := R.bx4; omega)
  have g6 : IntKind.u64.wrap ((F : Int) + 1) = y1 := u64w_of (by have := R.ey1; omega) (by have := R.ey1; omega)
  have g7 := u64w_lmul (K := 1000) rfl R.ey2 (by have := R.ey1; have := R.ey2; omega)
  have g8 := u64w_mul R.ey3 (by have := R.by3; omega)
  have g9 := u64w_sub1 R.ei1 (by have := R.ei1; omega)
  have g10 := u64w_mul R.ey4 (by have := R.by4; omega)
  have g11 := u64w_add R.ep (by have := R.bz; omega)
  have g12 : IntKind.u64.wrap (1000 + (E : Int)) = z1 := u64w_of (by have := R.ez1; omega) (by have := R.ez1; omega)
  have g13 := u64w_mul R.ez2 (by have := R.bz2; omega)
  have g14 := u64w_mul R.ez3 (by have := R.bz3; omega)
  have g15 := u64w_mul R.ez (by have := R.bz; omega)
  have g16 := u64w F (by omega)
  have g17 := u64w E (by omega)
  have g18 := u64w i (by omega)
  have HS : Hid (∀ W, Calls Tryz.prog 74 #[.int .u64 (part F E i : Nat), .int .u64 (whole F E i : Nat)] W fun e w' => e = .returned (.int .u64 (belowN F E i : Nat)) ∧ w' = W) := fun W => rshare_any _ _ W b1 (by have := R.bz; omega)
  generalize belowN F E i = b at *
  generalize part F E i = P at *
  generalize whole F E i = W at *
  clear R b1 hf4 he2 h1 h2 hm
  go_enter Tryz.func55, Tryz.ntmps55
  go_wp2_with fail
  refine (HS.out _).mono ?_
  rintro e w1 ⟨rfl, rfl⟩
  go_wp2
  go_ret
  exact ⟨rfl, below_alloc _ _⟩

set_option maxRecDepth 100000 in
set_option maxHeartbeats 1000000 in
theorem dnew_no (N B Q E F : Int) (w : World) (h : ¬ May N B Q E F) :
    Calls Tryz.prog 44 #[.agg #[.int .i64 N, .int .i64 B, .int .i64 Q, .int .i64 E, .int .i64 F]] w fun e w' => e = .returned (.tuple #[.pointer none, .int .i64 1]) ∧ Below w.heap.size w w' := by
  have he := mayE_no h
  clear h
  go_enter Tryz.func44, Tryz.ntmps44
  go_wp2_with fail
  refine (pcheck_any N B Q E F _).mono ?_
  rintro e w1 ⟨rfl, hb⟩
  rw [he]
  have HB : Hid (Below w.heap.size w w1) := (below_alloc w _).trans (hb.mono (by simp))
  clear hb he
  go_wp2
  go_ret2
  exact ⟨rfl, HB.out⟩

set_option maxRecDepth 100000 in
set_option maxHeartbeats 1000000 in
theorem dnew_yes (N B Q : Int) (E F : Nat) (w : World) (h : May N B Q E F) :
    Calls Tryz.prog 44 #[.agg #[.int .i64 N, .int .i64 B, .int .i64 Q, .int .i64 (E : Nat), .int .i64 (F : Nat)]] w fun e w' => ∃ a, w.heap.size ≤ a ∧ e = .returned (.tuple #[.pointer (some ⟨a, 0, none⟩), .int .i64 0]) ∧ IsDT w' a F E ∧ Below w.heap.size w w' := by
  have he := mayE_yes h
  clear h
  go_enter Tryz.func44, Tryz.ntmps44
  go_wp2_with fail
  refine (pcheck_any N B Q E F _).mono ?_
  rintro e w1 ⟨rfl, hb⟩
  rw [he]
  have HB : Hid (Below w.heap.size w w1) := (below_alloc w _).trans (hb.mono (by simp))
  have F1 : Hid (Five w1 w.heap.size N B Q E F) := (five_new w _ N B Q E F).below hb
  clear hb he
  obtain ⟨c0, c1, c2, c3, c4⟩ := F1.out
  clear F1
  go_wp2
  go_ret2
  exact ⟨_, HB.out.size, rfl, ⟨by simp, by simp⟩, HB.out.trans ((below_alloc _ _).mono HB.out.size)⟩

end

section
/-
  degree: Of, by sort.Search; the document's Of.
-/
open Go.RowKit
set_option linter.unusedVariables false

/-- What the closure has captured. -/
structure DofI (w : World) (tv uv a F E u : Nat) : Prop where
  t : w.cell? ⟨tv, 0, none⟩ = some (.pointer (some ⟨a, 0, none⟩))
  u : w.cell? ⟨uv, 0, none⟩ = some (.int .u64 (u : Nat))
  d : IsDT w a F E

theorem DofI.below {w w' : World} {tv uv a F E u : Nat} (h : DofI w tv uv a F E u) (hb : Below w.heap.size w w') : DofI w' tv uv a F E u :=
  ⟨(hb.cell (cell_block_lt h.t)).trans h.t, (hb.cell (cell_block_lt h.u)).trans h.u, h.d.below hb⟩

set_option maxRecDepth 100000 in
set_option maxHeartbeats 1000000 in
theorem of1_any (tv uv a F E u j : Nat) (w : World) (h : DofI w tv uv a F E u) (hm : MayD F E) (hj : j + 1 < F) :
    Calls Tryz.prog 76 #[.int .i64 (j : Nat), .pointer (some ⟨tv, 0, none⟩), .pointer (some ⟨uv, 0, none⟩)] w fun e w' => e = .returned (.bool (decide (u < belowN F E (j + 1)))) ∧ Below w.heap.size w w' := by
  have h0 := h.t
  have HU : Hid (DofI w tv uv a F E u) := h
  have hf := hm.f4
  have HB : Hid (Calls Tryz.prog 77 #[.pointer (some ⟨a, 0, none⟩), .int .i64 ((j + 1 : Nat) : Int)] w fun e w' => e = .returned (.tuple #[.int .u64 (belowN F E (j + 1) : Nat), .bool true]) ∧ Below w.heap.size w w') := dbelow_yes a F E (j + 1) w h.d hm (by omega) hj
  have e1 : ((j + 1 : Nat) : Int) = (j : Int) + 1 := by simp
  rw [e1] at HB
  clear h hm e1
  generalize belowN F E (j + 1) = b at *
  go_enter Tryz.func76, Tryz.ntmps76
  go_wp2_with fail
  refine HB.out.mono ?_
  rintro e w1 ⟨rfl, hb⟩
  have H1 : Hid (Below w.heap.size w w1) := hb
  have hu := (HU.out.below hb).u
  clear hb HB
  by_cases hlt : u < b
  · have hlt' : (b : Int) > (u : Int) := by omega
    have HD : Hid (decide (u < b) = true) := decide_eq_true hlt
    clear hlt
    go_wp2
    go_ret
    exact ⟨ret_bool (by rw [HD.out]), H1.out⟩
  · have hlt' : ¬ (b : Int) > (u : Int) := by omega
    have HD : Hid (decide (u < b) = false) := decide_eq_false hlt
    clear hlt
    go_wp2
    go_ret
    exact ⟨ret_bool (by rw [HD.out]), H1.out⟩

/-- The search's bounds. -/
structure SrchI (F E u lo hi : Nat) : Prop where
  le : lo ≤ hi
  top : hi + 1 ≤ F
  below : ∀ t, t < lo → belowN F E (t + 1) ≤ u
  above : ∀ t, hi ≤ t → t + 1 < F → u < belowN F E (t + 1)

theorem srch_start {F E u : Nat} (h : 2 ≤ F) : SrchI F E u 0 (F - 1) := ⟨by omega, by omega, fun t ht => by omega, fun t h1 h2 => by omega⟩

theorem SrchI.up {F E u lo hi h : Nat} (I : SrchI F E u lo hi) (hm : MayD F E) (h1 : lo ≤ h) (h2 : h < hi) (hb : ¬ u < belowN F E (h + 1)) : SrchI F E u (h + 1) hi :=
  ⟨by omega, I.top, fun t ht => Nat.le_trans (below_mono hm (by omega) (by omega) (by have := I.top; omega)) (Nat.le_of_not_lt hb), I.above⟩

theorem SrchI.down {F E u lo hi h : Nat} (I : SrchI F E u lo hi) (hm : MayD F E) (h1 : lo ≤ h) (h2 : h < hi) (hb : u < belowN F E (h + 1)) : SrchI F E u lo h :=
  ⟨h1, by have := I.top; omega, I.below, fun t ht1 ht2 => Nat.lt_of_lt_of_le hb (below_mono hm (by omega) (by omega) ht2)⟩

theorem SrchI.done {F E u lo hi : Nat} (I : SrchI F E u lo hi) (h : ¬ lo < hi) : DegAt F E u (lo + 1) :=
  ⟨by omega, by have := I.top; have := I.le; omega, fun i h1 h2 => by have := I.below (i - 1) (by omega); rwa [show i - 1 + 1 = i by omega] at this, fun h2 => I.above lo (by omega) h2⟩

set_option maxRecDepth 100000 in
set_option maxHeartbeats 1000000 in
theorem search_any (tv uv a F E u : Nat) (w : World) (h : DofI w tv uv a F E u) (hm : MayD F E) :
    Calls Tryz.prog 75 #[.int .i64 ((F : Int) - 1), .func (Fn.func 76) #[] #[.pointer (some ⟨tv, 0, none⟩), .pointer (some ⟨uv, 0, none⟩)]] w fun e w' => ∃ d : Nat, e = .returned (.int .i64 (d : Nat)) ∧ DegAt F E u (d + 1) ∧ Below w.heap.size w w' := by
  have HU : Hid (DofI w tv uv a F E u) := h
  have HM : Hid (MayD F E) := hm
  have hf := hm.f4
  have hf2 := hm.f2
  have HI : Hid (SrchI F E u 0 (F - 1)) := srch_start hf2
  clear h hm
  go_enter Tryz.func75, Tryz.ntmps75
  go_wp2
  go_loopw [5, 6] (fun i j wr => ∃ (lo hi : Nat), i = .int .i64 (lo : Nat) ∧ j = .int .i64 (hi : Nat) ∧ hi ≤ 4096 ∧ lo ≤ 4096 ∧ Hid (SrchI F E u lo hi) ∧ Hid (Below w.heap.size w wr)) (fun i j _ => (intOf j).toNat - (intOf i).toNat)
  case atStart => exact ⟨0, F - 1, rfl, by go_num, by omega, by omega, HI, Below.refl _ _⟩
  case round =>
    obtain ⟨lo, hi, rfl, rfl, hh, hl, I, B⟩ := hrel
    clear HI
    by_cases hlt : lo < hi
    · obtain ⟨m, hmid⟩ : ∃ m, (lo + hi) / 2 = m := ⟨_, rfl⟩
      have e1 : ((lo : Int) + (hi : Int)) / 2 = (m : Int) := by omega
      have hm1 : lo ≤ m := by omega
      have hm2 : m < hi := by omega
      have hm3 : m + 1 < F := by have := I.out.top; omega
      have HC : Hid (∀ W, Below w.heap.size w W → Calls Tryz.prog 76 #[.int .i64 (m : Nat), .pointer (some ⟨tv, 0, none⟩), .pointer (some ⟨uv, 0, none⟩)] W fun e w' => e = .returned (.bool (decide (u < belowN F E (m + 1)))) ∧ Below W.heap.size W w') := fun W hW => of1_any tv uv a F E u m W (HU.out.below hW) HM.out hm3
      clear hmid hm3
      go_wp2_with fail
      refine (HC.out _ B.out).mono ?_
      rintro e w1 ⟨rfl, hb⟩
      have B1 : Hid (Below w.heap.size w w1) := B.out.trans (hb.mono B.out.size)
      clear hb B HC
      by_cases hd : u < belowN F E (m + 1)
      · have J : Hid (SrchI F E u lo m) := I.out.down HM.out hm1 hm2 hd
        have hd' : decide (u < belowN F E (m + 1)) = true := decide_eq_true hd
        rw [hd']
        clear I hd hd'
        go_wp2
        go_roundw
        case rel => exact ⟨lo, m, rfl, rfl, by omega, by omega, J, B1⟩
        case measure => simp [intOf]; omega
      · have J : Hid (SrchI F E u (m + 1) hi) := I.out.up HM.out hm1 hm2 hd
        have hd' : decide (u < belowN F E (m + 1)) = false := decide_eq_false hd
        rw [hd']
        clear I hd hd'
        go_wp2
        go_roundw
        case rel => exact ⟨m + 1, hi, by go_num, rfl, by omega, by omega, J, B1⟩
        case measure => simp [intOf]; omega
    · have D : Hid (DegAt F E u (lo + 1)) := I.out.done hlt
      clear I
      go_wp2
      go_ret
      exact ⟨lo, rfl, D.out, B.out⟩

set_option maxRecDepth 100000 in
set_option maxHeartbeats 1000000 in
/-- OF. -/
theorem dof_any (a F E u : Nat) (w : World) (h : IsDT w a F E) (hm : MayD F E) (hu : u < 18446744073709551616) :
    Calls Tryz.prog 56 #[.pointer (some ⟨a, 0, none⟩), .int .u64 (u : Nat)] w fun e w' => ∃ d : Nat, e = .returned (.int .i64 (d : Nat)) ∧ DegAt F E u d ∧ Below w.heap.size w w' := by
  have h0 := h.c0
  have hl := cell_block_lt h.c0
  have hf := hm.f4
  have hf2 := hm.f2
  have HM : Hid (MayD F E) := hm
  have HD : Hid (DofI ((w.alloc (.cells #[.pointer (some ⟨a, 0, none⟩)] 102)).alloc (.cells #[.int .u64 (u : Nat)] 24)) w.heap.size (w.heap.size + 1) a F E u) := by
    refine ⟨?_, ?_, ?_⟩
    · rw [(below_alloc _ _).cell (p := ⟨w.heap.size, 0, none⟩) (by simp)]; simp
    · have e : w.heap.size + 1 = (w.alloc (.cells #[.pointer (some ⟨a, 0, none⟩)] 102)).heap.size := by simp
      rw [e]; simp
    · exact (h.below (below_alloc _ _)).below (below_alloc _ _)
  clear hm h
  go_enter Tryz.func56, Tryz.ntmps56
  go_wp2_with fail
  refine (search_any _ _ a F E u _ HD.out HM.out).mono ?_
  rintro e w1 ⟨d, rfl, hd, hb⟩
  have hd2 := hd.hi
  have D : Hid (DegAt F E u (d + 1)) := hd
  have B : Hid (Below w.heap.size w w1) := ((below_alloc _ _).trans ((below_alloc _ _).mono (by simp))).trans (hb.mono (by simp; omega))
  clear hb HD hd
  go_wp2
  go_ret
  exact ⟨d + 1, ret_i (by omega), D.out, B.out⟩

/-- The document's loop. -/
def PastI (F E u k : Nat) : Prop := 1 ≤ k ∧ k ≤ F ∧ ∀ i, 1 ≤ i → i < k → belowN F E i ≤ u

set_option maxRecDepth 100000 in
set_option maxHeartbeats 1000000 in
/-- The document's Of. -/
theorem rdof_any (N B Q : Int) (F E u : Nat) (w : World) (hm : MayD F E) :
    Calls Tryz.prog 30 #[.agg #[.int .i64 N, .int .i64 B, .int .i64 Q, .int .i64 (E : Nat), .int .i64 (F : Nat)], .int .u64 (u : Nat)] w fun e w' => ∃ d : Nat, e = .returned (.int .i64 (d : Nat)) ∧ DegAt F E u d ∧ Below w.heap.size w w' := by
  have HM : Hid (MayD F E) := hm
  have hf := hm.f4
  have hf2 := hm.f2
  have HP : Hid (PastI F E u 1) := ⟨by omega, by omega, fun i h1 h2 => by omega⟩
  have F0 : Hid (Five (w.alloc (.cells #[.int .i64 N, .int .i64 B, .int .i64 Q, .int .i64 (E : Nat), .int .i64 (F : Nat)] 23)) w.heap.size N B Q E F) := five_new w _ N B Q E F
  clear hm
  go_enter Tryz.func30, Tryz.ntmps30
  go_wp2
  go_loopw [5] (fun i wr => ∃ (k : Nat), i = .int .i64 (k : Nat) ∧ k ≤ F ∧ Hid (PastI F E u k) ∧ Hid (Five wr w.heap.size N B Q E F ∧ Below w.heap.size w wr)) (fun i _ => F - (intOf i).toNat)
  case atStart => exact ⟨1, rfl, by omega, HP, F0.out, below_alloc _ _⟩
  case round =>
    obtain ⟨k, rfl, hk, P, G⟩ := hrel
    obtain ⟨c0, c1, c2, c3, c4⟩ := G.out.1
    clear F0 HP
    by_cases hlt : k < F
    · have HC : Hid (∀ W, Calls Tryz.prog 55 #[.agg #[.int .i64 N, .int .i64 B, .int .i64 Q, .int .i64 (E : Nat), .int .i64 (F : Nat)], .int .i64 (k : Nat)] W fun e w' => e = .returned (.int .u64 (belowN F E k : Nat)) ∧ Below W.heap.size W w') := fun W => rdbelow_any N B Q F E k W HM.out P.out.1 hlt
      have HX : Hid (∃ b, belowN F E k = b) := ⟨_, rfl⟩
      obtain ⟨b, hb⟩ := HX.out
      rw [hb] at HC
      have HE : Hid (belowN F E k = b) := hb
      clear hb HX
      go_wp2_with fail
      refine (HC.out _).mono ?_
      rintro e w1 ⟨rfl, hb⟩
      have G1 : Hid (Five w1 w.heap.size N B Q E F ∧ Below w.heap.size w w1) := ⟨G.out.1.below hb, G.out.2.trans (hb.mono G.out.2.size)⟩
      clear hb HC G c0 c1 c2 c3 c4
      by_cases hd : u < b
      · have hd' : (u : Int) < (b : Int) := by omega
        have D : Hid (DegAt F E u k) := ⟨P.out.1, P.out.2.1, P.out.2.2, fun _ => by rw [HE.out]; exact hd⟩
        clear P HE hd
        go_wp2
        go_ret
        exact ⟨k, rfl, D.out, G1.out.2⟩
      · have hd' : ¬ (u : Int) < (b : Int) := by omega
        have P2 : Hid (PastI F E u (k + 1)) := ⟨by omega, by omega, fun i h1 h2 => by
          by_cases e : i = k
          · rw [e, HE.out]; omega
          · exact P.out.2.2 i h1 (by omega)⟩
        clear P HE hd
        go_wp2
        go_roundw
        case rel => exact ⟨k + 1, by go_num, by omega, P2, G1⟩
        case measure => simp [intOf]; omega
    · have D : Hid (DegAt F E u F) := ⟨by omega, Nat.le_refl _, fun i h1 h2 => P.out.2.2 i h1 (by omega), fun h => by omega⟩
      clear P
      go_wp2
      go_ret
      exact ⟨F, rfl, D.out, G.out.2⟩

end

section
/-
  degree: the statements' own first look.
-/
open Go.RowKit
set_option linter.unusedVariables false

theorem may_nat {N B Q E F : Int} (h : May N B Q E F) : ∃ e f : Nat, E = e ∧ F = f ∧ MayD f e := by
  obtain ⟨-, -, -, h4, h5, h6⟩ := h
  obtain ⟨e, rfl⟩ := Int.eq_ofNat_of_zero_le (show 0 ≤ E by omega)
  obtain ⟨f, rfl⟩ := Int.eq_ofNat_of_zero_le (show 0 ≤ F by omega)
  refine ⟨e, f, rfl, rfl, by omega, by omega, by omega, by omega, ?_⟩
  have a : ((1000 : Nat) : Int) < ((f * e : Nat) : Int) := by rw [Int.natCast_mul]; exact h6
  omega

theorem may_two : May 1 1 1 ((1000 : Nat) : Int) ((2 : Nat) : Int) := ⟨by omega, by omega, by omega, by omega, by omega, by decide⟩
theorem mayD_two : MayD 2 1000 := ⟨by decide, by decide, by decide, by decide, by decide⟩
theorem below_two : belowN 2 1000 1 = 4611686018427387904 := by decide
theorem degat_one {d : Nat} (h : DegAt 2 1000 4611686018427387903 d) : d = 1 :=
  h.uniq ⟨by omega, by omega, fun i h1 h2 => by omega, fun _ => by rw [below_two]; decide⟩
theorem degat_two {d : Nat} (h : DegAt 2 1000 4611686018427387904 d) : d = 2 :=
  h.uniq ⟨by omega, by omega, fun i h1 h2 => by
    obtain rfl : i = 1 := by omega
    rw [below_two]
    exact Nat.le_refl _, fun h => by omega⟩

end

section
/-
  degree: a number's degree, named ahead.
-/
open Go.RowKit
set_option linter.unusedVariables false

theorem deg_or (F E u : Nat) (h : 2 ≤ F) : ∀ k, k < F → (∀ i, 1 ≤ i → i ≤ k → belowN F E i ≤ u) ∨ ∃ d, DegAt F E u d := by
  intro k
  induction k with
  | zero => intro _; exact .inl (fun i h1 h2 => by omega)
  | succ k ih =>
    intro hk
    rcases ih (by omega) with h1 | h1
    · by_cases hb : u < belowN F E (k + 1)
      · exact .inr ⟨k + 1, by omega, by omega, fun i a b => h1 i a (by omega), fun _ => hb⟩
      · refine .inl fun i a b => ?_
        by_cases e : i = k + 1
        · rw [e]; omega
        · exact h1 i a (by omega)
    · exact .inr h1

theorem deg_is {F E : Nat} (u : Nat) (h : 2 ≤ F) : ∃ d, DegAt F E u d := by
  rcases deg_or F E u h (F - 1) (by omega) with h1 | h1
  · exact ⟨F, by omega, Nat.le_refl _, fun i a b => h1 i a (by omega), fun c => by omega⟩
  · exact h1

theorem dof_at {F E u d : Nat} (hd : DegAt F E u d) (a : Nat) (w : World) (h : IsDT w a F E) (hm : MayD F E) (hu : u < 18446744073709551616) :
    Calls Tryz.prog 56 #[.pointer (some ⟨a, 0, none⟩), .int .u64 (u : Nat)] w fun e w' => e = .returned (.int .i64 (d : Nat)) ∧ Below w.heap.size w w' := by
  refine (dof_any a F E u w h hm hu).mono ?_
  rintro e w' ⟨c, rfl, hc, hb⟩
  rw [hc.uniq hd]
  exact ⟨rfl, hb⟩

theorem rdof_at {F E u d : Nat} (hd : DegAt F E u d) (N B Q : Int) (w : World) (hm : MayD F E) :
    Calls Tryz.prog 30 #[.agg #[.int .i64 N, .int .i64 B, .int .i64 Q, .int .i64 (E : Nat), .int .i64 (F : Nat)], .int .u64 (u : Nat)] w fun e w' => e = .returned (.int .i64 (d : Nat)) ∧ Below w.heap.size w w' := by
  refine (rdof_any N B Q F E u w hm).mono ?_
  rintro e w' ⟨c, rfl, hc, hb⟩
  rw [hc.uniq hd]
  exact ⟨rfl, hb⟩

end

end Go.Proofs.YtkckbeekehecnaaGreat
