/-
  The walks of package wire, second part: Take, Cut, Read.
-/
import Derived.Test.YtecohgmllmddhaaWireA
namespace Go.Proofs.Ytecohgmllmddhaa
open Go.RowKit
set_option linter.unusedVariables false

theorem ret_tup {k : IntKind} {a b : Int} {v : Value} (h : a = b) : Ending.returned (.tuple #[.int k a, v]) = .returned (.tuple #[.int k b, v]) := by rw [h]

/-- Bytes as a number of 64 bits, the highest first. -/
def num64 (l : List UInt8) : Nat := l.foldl (fun n x => (n * 256 + x.toNat) % 18446744073709551616) 0

theorem num64_lt (l : List UInt8) : num64 l < 18446744073709551616 := by
  unfold num64
  suffices h : ∀ n, n < 18446744073709551616 → l.foldl (fun n x => (n * 256 + x.toNat) % 18446744073709551616) n < 18446744073709551616 from h 0 (by omega)
  induction l with
  | nil => intro n h; exact h
  | cons x l ih => intro n h; exact ih _ (Nat.mod_lt _ (by omega))

theorem num64_next {l : List UInt8} {j : Nat} {m : Nat} {y : UInt8} (hj : j < l.length) (hy : l[j] = y) (h : m = num64 (l.take j)) : (m * 256 + y.toNat) % 18446744073709551616 = num64 (l.take (j + 1)) := by
  rw [List.take_succ_eq_append_getElem hj, num64, List.foldl_append, hy, h]
  rfl

theorem or64_nat (m : Nat) (y : UInt8) (hm : m < 18446744073709551616) : bits BinOp.or IntKind.u64 (IntKind.u64.wrap ((m : Int) * 256)) (y.toNat : Int) = (((m * 256 + y.toNat) % 18446744073709551616 : Nat) : Int) := by
  have hwr : IntKind.u64.wrap ((m : Int) * 256) = (m : Int) * 256 % 18446744073709551616 := by simp [IntKind.wrap, IntKind.bits, IntKind.signed]
  rw [hwr]
  have hy := y.toNat_lt
  have e := u64_or_nat (m * 256 % 18446744073709551616) y.toNat (by omega) (by omega)
  have e2 : (((m * 256 % 18446744073709551616 : Nat) : Int)) = (m : Int) * 256 % 18446744073709551616 := by omega
  have e3 := nat_join 8 (m * 256 % 18446744073709551616) y.toNat (by omega) (by omega)
  rw [e2, e3] at e
  rw [e]
  omega

set_option maxRecDepth 100000 in
set_option maxHeartbeats 1000000 in
/-- Take, refused. -/
theorem take_no (r q : Nat) (l : List UInt8) (n : Int) (w : World) (h : IsRd w r q l) (hn : ¬ (1 ≤ n ∧ n ≤ 8) ∨ (l.length : Int) < n) :
    Calls Try.prog 59 #[.pointer (some ⟨r, 0, none⟩), .int .i64 n] w fun e w' => e = .returned (.tuple #[.int .u64 0, .bool false]) ∧ w' = w := by
  by_cases hs : 1 ≤ n ∧ n ≤ 8
  · have hd : decide (1 ≤ n ∧ n ≤ 8) = true := by simpa using hs
    have hl : (l.length : Int) < n := by rcases hn with hn | hn; exact absurd hs hn; exact hn
    have HN : Hid (Calls Try.prog 69 #[.pointer (some ⟨r, 0, none⟩), .int .i64 n] w fun e w' => e = .returned (.tuple #[.slice none 0 0, .bool false]) ∧ w' = w) := next_no r q l n w h (.inr hl)
    clear hn h hl
    go_enter Try.func59, Try.ntmps59
    go_wp2_with fail
    refine (size_any n w).mono ?_
    rintro e w1 ⟨rfl, rfl⟩
    rw [hd]
    go_wp2_with fail
    refine HN.out.mono ?_
    rintro e w2 ⟨rfl, rfl⟩
    go_wp2
    go_ret2
    exact ⟨rfl, rfl⟩
  · have hd : decide (1 ≤ n ∧ n ≤ 8) = false := by simpa using hs
    clear hn h
    go_enter Try.func59, Try.ntmps59
    go_wp2_with fail
    refine (size_any n w).mono ?_
    rintro e w1 ⟨rfl, rfl⟩
    rw [hd]
    go_wp2
    go_ret2
    exact ⟨rfl, rfl⟩

set_option maxRecDepth 100000 in
set_option maxHeartbeats 1000000 in
/-- Take: a number. -/
theorem take_yes (r q : Nat) (l : List UInt8) (n : Nat) (w : World) (h : IsRd w r q l) (h1 : 1 ≤ n) (h8 : n ≤ 8) (hn : n ≤ l.length) :
    Calls Try.prog 59 #[.pointer (some ⟨r, 0, none⟩), .int .i64 n] w fun e w' => e = .returned (.tuple #[.int .u64 (num64 (l.take n)), .bool true]) ∧ IsRd w' r q (l.drop n) ∧ w.grownBy w' (some r) ∧ w'.heap.size = w.heap.size := by
  have hd : decide ((1 : Int) ≤ (n : Int) ∧ (n : Int) ≤ 8) = true := by simp; omega
  have HI : Hid (IsRd w r q l) := h
  have hl3 := h.2.2.1
  clear h
  go_enter Try.func59, Try.ntmps59
  go_wp2_with fail
  refine (size_any n w).mono ?_
  rintro e w1 ⟨rfl, rfl⟩
  rw [hd]
  clear hd
  go_wp2_with fail
  refine (next_yes r q l n _ HI.out hn).mono ?_
  rintro e w2 ⟨off, rfl, hrd, hrow, hgr, hsz⟩
  have HRd : Hid (IsRd w2 r q (l.drop n)) := hrd
  have HRow : Hid (Row w2 q off (l.take n)) := hrow.take n
  have HG : Hid (w1.grownBy w2 (some r) ∧ w2.heap.size = w1.heap.size) := ⟨hgr, hsz⟩
  have HL : Hid ((l.take n).length = n) := by unfold Hid; simp; omega
  clear hrd hrow hgr hsz HI
  generalize ht : l.take n = t at *
  have Ht : Hid (l.take n = t) := ht
  clear ht
  go_wp2
  go_loop [8, 24] (fun x i => ∃ (j m : Nat), j ≤ n ∧ i = .int .i64 j ∧ x = .int .u64 m ∧ m < 18446744073709551616 ∧ m = num64 (t.take j)) (fun _ i => n - (intOf i).toNat)
  case atStart => exact ⟨0, 0, by omega, rfl, rfl, by omega, rfl⟩
  case round =>
    obtain ⟨j, m, hj, rfl, rfl, hm, he⟩ := hrel
    have H : Hid (m = num64 (t.take j)) := he
    clear he
    by_cases hlt : j < n
    · have hjl : j < t.length := by rw [HL.out]; exact hlt
      have hcb := HRow.out j _ (map_bv_at t j hjl)
      generalize hy : t[j] = y at *
      have Hy : Hid (t[j] = y) := hy
      clear hy
      have hyl := y.toNat_lt
      have HO : Hid (bits BinOp.or IntKind.u64 (IntKind.u64.wrap ((m : Int) * 256)) (y.toNat : Int) = (((m * 256 + y.toNat) % 18446744073709551616 : Nat) : Int)) := or64_nat m y hm
      go_wp2
      go_round
      case rel => exact ⟨j + 1, _, by omega, by go_num, int_val HO.out, Nat.mod_lt _ (by omega), num64_next hjl Hy.out H.out⟩
      case measure => simp [intOf]; omega
    · go_wp2
      go_ret2
      exact ⟨ret_tup (by rw [H.out, List.take_of_length_le (by rw [HL.out]; omega), Ht.out]), HRd.out, HG.out.1, HG.out.2⟩

theorem Below.toGrown {w w' : World} {row : Option Nat} (h : Below w.heap.size w w') : w.grownBy w' row := ⟨h.os, h.tape, h.output, h.size, fun k hk _ => h.block k hk⟩

theorem grown_trans {a b c : World} {row : Option Nat} (h : a.grownBy b row) (k : b.grownBy c row) : a.grownBy c row :=
  ⟨k.os.trans h.os, k.tape.trans h.tape, k.output.trans h.output, Nat.le_trans h.size k.size, fun i hi hr => (k.block i (Nat.lt_of_lt_of_le hi h.size) hr).trans (h.block i hi hr)⟩

end Go.Proofs.Ytecohgmllmddhaa
