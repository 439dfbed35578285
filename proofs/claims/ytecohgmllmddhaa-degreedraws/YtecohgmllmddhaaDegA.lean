/-
  math/bits: Len64, LeadingZeros64.
-/
import Derived.Test.YtecohgmllmddhaaRows
import Derived.Test.YtecohgmllmddhaaLBase
import Derived.Test.YtecohgmllmddhaaLPh
import Derived.Deep.CutRange
namespace Go.Proofs.Ytecohgmllmddhaa
open Go.RowKit
set_option linter.unusedVariables false

/-- L bits are what a number has. -/
def Good (x L : Nat) : Prop := 1 ≤ x → 1 ≤ L ∧ 2 ^ (L - 1) ≤ x ∧ x < 2 ^ L

theorem Good.shift {x L : Nat} (k : Nat) (h : Good (x / 2 ^ k) L) (hx : 2 ^ k ≤ x) : Good x (k + L) := by
  intro _
  have hp : 0 < 2 ^ k := Nat.two_pow_pos k
  have h1 : 1 ≤ x / 2 ^ k := (Nat.le_div_iff_mul_le hp).2 (by omega)
  obtain ⟨g1, g2, g3⟩ := h h1
  refine ⟨by omega, ?_, ?_⟩
  · have e : k + L - 1 = (L - 1) + k := by omega
    rw [e, Nat.pow_add]
    exact (Nat.le_div_iff_mul_le hp).1 g2
  · rw [Nat.add_comm, Nat.pow_add]
    exact (Nat.div_lt_iff_lt_mul hp).1 g3

def lenT : ByteArray := ⟨#[0, 1, 2, 2, 3, 3, 3, 3, 4, 4, 4, 4, 4, 4, 4, 4, 5, 5, 5, 5, 5, 5, 5, 5, 5, 5, 5, 5, 5, 5, 5, 5, 6, 6, 6, 6, 6, 6, 6, 6, 6, 6, 6, 6, 6, 6, 6, 6, 6, 6, 6, 6, 6, 6, 6, 6, 6, 6, 6, 6, 6, 6, 6, 6, 7, 7, 7, 7, 7, 7, 7, 7, 7, 7, 7, 7, 7, 7, 7, 7, 7, 7, 7, 7, 7, 7, 7, 7, 7, 7, 7, 7, 7, 7, 7, 7, 7, 7, 7, 7, 7, 7, 7, 7, 7, 7, 7, 7, 7, 7, 7, 7, 7, 7, 7, 7, 7, 7, 7, 7, 7, 7, 7, 7, 7, 7, 7, 7, 8, 8, 8, 8, 8, 8, 8, 8, 8, 8, 8, 8, 8, 8, 8, 8, 8, 8, 8, 8, 8, 8, 8, 8, 8, 8, 8, 8, 8, 8, 8, 8, 8, 8, 8, 8, 8, 8, 8, 8, 8, 8, 8, 8, 8, 8, 8, 8, 8, 8, 8, 8, 8, 8, 8, 8, 8, 8, 8, 8, 8, 8, 8, 8, 8, 8, 8, 8, 8, 8, 8, 8, 8, 8, 8, 8, 8, 8, 8, 8, 8, 8, 8, 8, 8, 8, 8, 8, 8, 8, 8, 8, 8, 8, 8, 8, 8, 8, 8, 8, 8, 8, 8, 8, 8, 8, 8, 8, 8, 8, 8, 8, 8, 8, 8, 8, 8, 8, 8, 8, 8, 8, 8, 8, 8, 8, 8, 8]⟩

theorem lenT_good : ∀ j, (h : j < lenT.size) → Good j (lenT[j]).toNat := by unfold Good; decide +kernel

theorem wrap_len0 (u : UInt8) : wrap64 (wrap64 (u.toNat : Int)) = ((u.toNat : Nat) : Int) := by
  have := u.toNat_lt
  unfold wrap64
  omega
theorem wrap_len (o : Nat) (z : Int) (u : UInt8) (hz : z = o) (ho : o ≤ 64) : wrap64 (z + wrap64 (u.toNat : Int)) = ((o + u.toNat : Nat) : Int) := by
  have := u.toNat_lt
  subst hz
  unfold wrap64
  omega

theorem ret_i {k : IntKind} {a b : Int} (h : a = b) : Ending.returned (.int k a) = .returned (.int k b) := by rw [h]

set_option maxRecDepth 100000 in
set_option maxHeartbeats 1000000 in
theorem len64_000 (x : Nat) (w : World) (g32 : ¬ (x : Int) ≥ 4294967296) (g16 : ¬ (x : Int) ≥ 65536) (g8 : ¬ (x : Int) ≥ 256) (hl : x < 256) :
    Calls Try.prog 70 #[.int .u64 x] w fun e w' => ∃ L : Nat, e = .returned (.int .i64 (L : Nat)) ∧ Good x L ∧ w' = w := by
  have hl2 : IntKind.u8.wrap (x : Int) = x := by rw [IntKind.wrap_u8]; omega
  go_enter Try.func70, Try.ntmps70
  go_upto_region 10 with fail
  clear  g8 g16 g32
  go_wp2
  go_ret
  exact ⟨_, ret_i (wrap_len0 _), lenT_good x hl, rfl⟩

set_option maxRecDepth 100000 in
set_option maxHeartbeats 1000000 in
theorem len64_001 (x : Nat) (w : World) (g32 : ¬ (x : Int) ≥ 4294967296) (g16 : ¬ (x : Int) ≥ 65536) (x1 : Nat) (e1 : (x : Int) / 256 = (x1 : Int)) (g8 : (x : Int) ≥ 256) (hl : x1 < 256) :
    Calls Try.prog 70 #[.int .u64 x] w fun e w' => ∃ L : Nat, e = .returned (.int .i64 ((8 + L) : Nat)) ∧ Good x1 L ∧ w' = w := by
  have hl2 : IntKind.u8.wrap (x1 : Int) = x1 := by rw [IntKind.wrap_u8]; omega
  go_enter Try.func70, Try.ntmps70
  go_upto_region 10 with fail
  clear e1 g8 g16 g32
  go_wp2
  go_ret
  exact ⟨_, ret_i (wrap_len 8 _ _ rfl (by decide)), lenT_good x1 hl, rfl⟩

set_option maxRecDepth 100000 in
set_option maxHeartbeats 1000000 in
theorem len64_010 (x : Nat) (w : World) (g32 : ¬ (x : Int) ≥ 4294967296) (x1 : Nat) (e1 : (x : Int) / 65536 = (x1 : Int)) (g16 : (x : Int) ≥ 65536) (g8 : ¬ (x1 : Int) ≥ 256) (hl : x1 < 256) :
    Calls Try.prog 70 #[.int .u64 x] w fun e w' => ∃ L : Nat, e = .returned (.int .i64 ((16 + L) : Nat)) ∧ Good x1 L ∧ w' = w := by
  have hl2 : IntKind.u8.wrap (x1 : Int) = x1 := by rw [IntKind.wrap_u8]; omega
  go_enter Try.func70, Try.ntmps70
  go_upto_region 10 with fail
  clear e1 g8 g16 g32
  go_wp2
  go_ret
  exact ⟨_, ret_i (wrap_len 16 _ _ rfl (by decide)), lenT_good x1 hl, rfl⟩

set_option maxRecDepth 100000 in
set_option maxHeartbeats 1000000 in
theorem len64_011 (x : Nat) (w : World) (g32 : ¬ (x : Int) ≥ 4294967296) (x1 : Nat) (e1 : (x : Int) / 65536 = (x1 : Int)) (g16 : (x : Int) ≥ 65536) (x2 : Nat) (e2 : (x1 : Int) / 256 = (x2 : Int)) (g8 : (x1 : Int) ≥ 256) (hl : x2 < 256) :
    Calls Try.prog 70 #[.int .u64 x] w fun e w' => ∃ L : Nat, e = .returned (.int .i64 ((24 + L) : Nat)) ∧ Good x2 L ∧ w' = w := by
  have hl2 : IntKind.u8.wrap (x2 : Int) = x2 := by rw [IntKind.wrap_u8]; omega
  go_enter Try.func70, Try.ntmps70
  go_upto_region 10 with fail
  clear e1 e2 g8 g16 g32
  go_wp2
  go_ret
  exact ⟨_, ret_i (wrap_len 24 _ _ rfl (by decide)), lenT_good x2 hl, rfl⟩

set_option maxRecDepth 100000 in
set_option maxHeartbeats 1000000 in
theorem len64_100 (x : Nat) (w : World) (x1 : Nat) (e1 : (x : Int) / 4294967296 = (x1 : Int)) (g32 : (x : Int) ≥ 4294967296) (g16 : ¬ (x1 : Int) ≥ 65536) (g8 : ¬ (x1 : Int) ≥ 256) (hl : x1 < 256) :
    Calls Try.prog 70 #[.int .u64 x] w fun e w' => ∃ L : Nat, e = .returned (.int .i64 ((32 + L) : Nat)) ∧ Good x1 L ∧ w' = w := by
  have hl2 : IntKind.u8.wrap (x1 : Int) = x1 := by rw [IntKind.wrap_u8]; omega
  go_enter Try.func70, Try.ntmps70
  go_upto_region 10 with fail
  clear e1 g8 g16 g32
  go_wp2
  go_ret
  exact ⟨_, ret_i (wrap_len 32 _ _ rfl (by decide)), lenT_good x1 hl, rfl⟩

set_option maxRecDepth 100000 in
set_option maxHeartbeats 1000000 in
theorem len64_101 (x : Nat) (w : World) (x1 : Nat) (e1 : (x : Int) / 4294967296 = (x1 : Int)) (g32 : (x : Int) ≥ 4294967296) (g16 : ¬ (x1 : Int) ≥ 65536) (x2 : Nat) (e2 : (x1 : Int) / 256 = (x2 : Int)) (g8 : (x1 : Int) ≥ 256) (hl : x2 < 256) :
    Calls Try.prog 70 #[.int .u64 x] w fun e w' => ∃ L : Nat, e = .returned (.int .i64 ((40 + L) : Nat)) ∧ Good x2 L ∧ w' = w := by
  have hl2 : IntKind.u8.wrap (x2 : Int) = x2 := by rw [IntKind.wrap_u8]; omega
  go_enter Try.func70, Try.ntmps70
  go_upto_region 10 with fail
  clear e1 e2 g8 g16 g32
  go_wp2
  go_ret
  exact ⟨_, ret_i (wrap_len 40 _ _ rfl (by decide)), lenT_good x2 hl, rfl⟩

set_option maxRecDepth 100000 in
set_option maxHeartbeats 1000000 in
theorem len64_110 (x : Nat) (w : World) (x1 : Nat) (e1 : (x : Int) / 4294967296 = (x1 : Int)) (g32 : (x : Int) ≥ 4294967296) (x2 : Nat) (e2 : (x1 : Int) / 65536 = (x2 : Int)) (g16 : (x1 : Int) ≥ 65536) (g8 : ¬ (x2 : Int) ≥ 256) (hl : x2 < 256) :
    Calls Try.prog 70 #[.int .u64 x] w fun e w' => ∃ L : Nat, e = .returned (.int .i64 ((48 + L) : Nat)) ∧ Good x2 L ∧ w' = w := by
  have hl2 : IntKind.u8.wrap (x2 : Int) = x2 := by rw [IntKind.wrap_u8]; omega
  go_enter Try.func70, Try.ntmps70
  go_upto_region 10 with fail
  clear e1 e2 g8 g16 g32
  go_wp2
  go_ret
  exact ⟨_, ret_i (wrap_len 48 _ _ rfl (by decide)), lenT_good x2 hl, rfl⟩

set_option maxRecDepth 100000 in
set_option maxHeartbeats 1000000 in
theorem len64_111 (x : Nat) (w : World) (x1 : Nat) (e1 : (x : Int) / 4294967296 = (x1 : Int)) (g32 : (x : Int) ≥ 4294967296) (x2 : Nat) (e2 : (x1 : Int) / 65536 = (x2 : Int)) (g16 : (x1 : Int) ≥ 65536) (x3 : Nat) (e3 : (x2 : Int) / 256 = (x3 : Int)) (g8 : (x2 : Int) ≥ 256) (hl : x3 < 256) :
    Calls Try.prog 70 #[.int .u64 x] w fun e w' => ∃ L : Nat, e = .returned (.int .i64 ((56 + L) : Nat)) ∧ Good x3 L ∧ w' = w := by
  have hl2 : IntKind.u8.wrap (x3 : Int) = x3 := by rw [IntKind.wrap_u8]; omega
  go_enter Try.func70, Try.ntmps70
  go_upto_region 10 with fail
  clear e1 e2 e3 g8 g16 g32
  go_wp2
  go_ret
  exact ⟨_, ret_i (wrap_len 56 _ _ rfl (by decide)), lenT_good x3 hl, rfl⟩

theorem div_cast (x c : Nat) {C : Int} (hC : C = c) : (x : Int) / C = ((x / c : Nat) : Int) := by subst hC; simp

theorem good_lt {x L : Nat} (h : Good x L) (h1 : 1 ≤ x) (hx : x < 2 ^ 64) : L ≤ 64 := by
  obtain ⟨g1, g2, g3⟩ := h h1
  have := (Nat.pow_lt_pow_iff_right (a := 2) (by decide)).1 (Nat.lt_of_le_of_lt g2 hx)
  omega

theorem len64_any (x : Nat) (w : World) (hx : x < 18446744073709551616) :
    Calls Try.prog 70 #[.int .u64 x] w fun e w' => ∃ L : Nat, e = .returned (.int .i64 (L : Nat)) ∧ Good x L ∧ w' = w := by
  by_cases h32 : x ≥ 4294967296
  · have t32 : ((x : Nat) : Int) ≥ 4294967296 := by omega
    by_cases h16 : x / 4294967296 ≥ 65536
    · have t16 : ((x / 4294967296 : Nat) : Int) ≥ 65536 := by omega
      by_cases h8 : (x / 4294967296) / 65536 ≥ 256
      · have t8 : (((x / 4294967296) / 65536 : Nat) : Int) ≥ 256 := by omega
        refine (len64_111 x w (x / 4294967296) (div_cast (x) 4294967296 rfl) t32 ((x / 4294967296) / 65536) (div_cast (x / 4294967296) 65536 rfl) t16 (((x / 4294967296) / 65536) / 256) (div_cast ((x / 4294967296) / 65536) 256 rfl) t8 (by omega)).mono ?_
        rintro e w' ⟨L, rfl, hg, rfl⟩
        exact ⟨(32 + (16 + (8 + L))), ret_i (by omega), (Good.shift (x := x) 32 (Good.shift (x := x / 4294967296) 16 (Good.shift (x := (x / 4294967296) / 65536) 8 hg (by omega)) (by omega)) (by omega)), rfl⟩
      · have t8 : ¬ (((x / 4294967296) / 65536 : Nat) : Int) ≥ 256 := by omega
        refine (len64_110 x w (x / 4294967296) (div_cast (x) 4294967296 rfl) t32 ((x / 4294967296) / 65536) (div_cast (x / 4294967296) 65536 rfl) t16 t8 (by omega)).mono ?_
        rintro e w' ⟨L, rfl, hg, rfl⟩
        exact ⟨(32 + (16 + L)), ret_i (by omega), (Good.shift (x := x) 32 (Good.shift (x := x / 4294967296) 16 hg (by omega)) (by omega)), rfl⟩
    · have t16 : ¬ ((x / 4294967296 : Nat) : Int) ≥ 65536 := by omega
      by_cases h8 : x / 4294967296 ≥ 256
      · have t8 : ((x / 4294967296 : Nat) : Int) ≥ 256 := by omega
        refine (len64_101 x w (x / 4294967296) (div_cast (x) 4294967296 rfl) t32 t16 ((x / 4294967296) / 256) (div_cast (x / 4294967296) 256 rfl) t8 (by omega)).mono ?_
        rintro e w' ⟨L, rfl, hg, rfl⟩
        exact ⟨(32 + (8 + L)), ret_i (by omega), (Good.shift (x := x) 32 (Good.shift (x := x / 4294967296) 8 hg (by omega)) (by omega)), rfl⟩
      · have t8 : ¬ ((x / 4294967296 : Nat) : Int) ≥ 256 := by omega
        refine (len64_100 x w (x / 4294967296) (div_cast (x) 4294967296 rfl) t32 t16 t8 (by omega)).mono ?_
        rintro e w' ⟨L, rfl, hg, rfl⟩
        exact ⟨(32 + L), ret_i (by omega), (Good.shift (x := x) 32 hg (by omega)), rfl⟩
  · have t32 : ¬ ((x : Nat) : Int) ≥ 4294967296 := by omega
    by_cases h16 : x ≥ 65536
    · have t16 : ((x : Nat) : Int) ≥ 65536 := by omega
      by_cases h8 : x / 65536 ≥ 256
      · have t8 : ((x / 65536 : Nat) : Int) ≥ 256 := by omega
        refine (len64_011 x w t32 (x / 65536) (div_cast (x) 65536 rfl) t16 ((x / 65536) / 256) (div_cast (x / 65536) 256 rfl) t8 (by omega)).mono ?_
        rintro e w' ⟨L, rfl, hg, rfl⟩
        exact ⟨(16 + (8 + L)), ret_i (by omega), (Good.shift (x := x) 16 (Good.shift (x := x / 65536) 8 hg (by omega)) (by omega)), rfl⟩
      · have t8 : ¬ ((x / 65536 : Nat) : Int) ≥ 256 := by omega
        refine (len64_010 x w t32 (x / 65536) (div_cast (x) 65536 rfl) t16 t8 (by omega)).mono ?_
        rintro e w' ⟨L, rfl, hg, rfl⟩
        exact ⟨(16 + L), ret_i (by omega), (Good.shift (x := x) 16 hg (by omega)), rfl⟩
    · have t16 : ¬ ((x : Nat) : Int) ≥ 65536 := by omega
      by_cases h8 : x ≥ 256
      · have t8 : ((x : Nat) : Int) ≥ 256 := by omega
        refine (len64_001 x w t32 t16 (x / 256) (div_cast (x) 256 rfl) t8 (by omega)).mono ?_
        rintro e w' ⟨L, rfl, hg, rfl⟩
        exact ⟨(8 + L), ret_i (by omega), (Good.shift (x := x) 8 hg (by omega)), rfl⟩
      · have t8 : ¬ ((x : Nat) : Int) ≥ 256 := by omega
        refine (len64_000 x w t32 t16 t8 (by omega)).mono ?_
        rintro e w' ⟨L, rfl, hg, rfl⟩
        exact ⟨L, rfl, hg, rfl⟩

end Go.Proofs.Ytecohgmllmddhaa
