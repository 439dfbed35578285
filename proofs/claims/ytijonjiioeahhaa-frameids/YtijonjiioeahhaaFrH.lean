/-
  The walks of the document's own answers for frames: Get, number, Same.
-/
import Derived.Test.YtijonjiioeahhaaFrG
namespace Go.Proofs.Ytijonjiioeahhaa
open Go.RowKit
set_option linter.unusedVariables false

theorem add64_nat (m : Nat) (y : UInt8) (hm : m < 18446744073709551616) : IntKind.u64.wrap (IntKind.u64.wrap ((m : Int) * 256) + (y.toNat : Int)) = (((m * 256 + y.toNat) % 18446744073709551616 : Nat) : Int) := by
  have hwr : ∀ x : Int, IntKind.u64.wrap x = x % 18446744073709551616 := by intro x; simp [IntKind.wrap, IntKind.bits, IntKind.signed]
  rw [hwr, hwr]
  omega

set_option maxRecDepth 100000 in
set_option maxHeartbeats 1000000 in
/-- The document's Get. -/
theorem rget_any (v : Value) (l : List UInt8) (w : World) (hl : Bs w v l) (hl2 : l.length ≤ 1000000) :
    Calls Try.prog 64 #[v] w fun e w' => e = .returned (.int .u64 (num64 l)) ∧ w' = w := by
  obtain ⟨hll, a0, c0, rfl, hc0, hm0, _, hcell⟩ := hl
  clear hll
  unfold maxLen at hm0
  obtain ⟨n, hn⟩ : ∃ n, l.length = n := ⟨_, rfl⟩
  rw [hn] at hc0 hl2 hcell ⊢
  have HN : Hid (l.length = n) := hn
  clear hn
  go_enter Try.func64, Try.ntmps64
  go_wp2
  go_loop [3, 4] (fun x i => ∃ (j m : Nat), j ≤ n ∧ i = .int .i64 j ∧ x = .int .u64 m ∧ m < 18446744073709551616 ∧ m = num64 (l.take j)) (fun _ i => n - (intOf i).toNat)
  case atStart => exact ⟨0, 0, by omega, rfl, rfl, by omega, rfl⟩
  case round =>
    obtain ⟨j, m, hj, rfl, rfl, hm, he⟩ := hrel
    have H : Hid (m = num64 (l.take j)) := he
    clear he
    by_cases hlt : j < n
    · rcases hcell with hz | ⟨pb, po, rfl, hcl⟩
      · omega
      have hjl : j < l.length := by rw [HN.out]; exact hlt
      have hcb := hcl j _ (map_bv_at l j hjl)
      generalize hy : l[j] = y at *
      have Hy : Hid (l[j] = y) := hy
      clear hy hcl
      have hyl := y.toNat_lt
      go_wp2
      go_round
      case rel => exact ⟨j + 1, _, by omega, by go_num, int_val (add64_nat m y hm), Nat.mod_lt _ (by omega), num64_next hjl Hy.out H.out⟩
      case measure => simp [intOf]; omega
    · go_wp2
      go_ret
      exact ⟨ret_int (by rw [H.out, List.take_of_length_le (by rw [HN.out]; omega)]), rfl⟩

set_option maxRecDepth 100000 in
set_option maxHeartbeats 1000000 in
/-- The document's number. -/
theorem rnum_any (v : Value) (l : List UInt8) (a s : Nat) (w : World) (hl : Bs w v l) (h : a + s ≤ l.length) (ha : a ≤ 100) (hs : s ≤ 8) :
    Calls Try.prog 63 #[v, .int .i64 a, .int .i64 s] w fun e w' => e = .returned (.int .i64 (asInt (num l a s))) ∧ w' = w := by
  have HB : Hid (Bs w v l) := hl
  obtain ⟨-, a0, k0, rfl, hk0, -, -, -⟩ := hl
  have s0 := fun W => slice_mid W a0 l.length k0 a s (by omega)
  have HM : Hid (Bs w (.slice (if k0 = a then a0 else a0.map (·.add (a * 1))) s (k0 - a)) ((l.drop a).take s)) := HB.out.mid a s h
  generalize (.slice (if k0 = a then a0 else a0.map (·.add (a * 1))) s (k0 - a) : Value) = sv at *
  go_enter Try.func63, Try.ntmps63
  go_wp2_with fail
  refine (rget_any sv ((l.drop a).take s) w HM.out (by simp; omega)).mono ?_
  rintro e w1 ⟨rfl, rfl⟩
  obtain ⟨x, hx⟩ : ∃ x, asInt (num l a s) = x := ⟨_, rfl⟩
  have hk : IntKind.i64.wrap (num64 ((l.drop a).take s) : Int) = x := hx
  have HX : Hid (asInt (num l a s) = x) := hx
  clear hx
  generalize num64 ((l.drop a).take s) = y at *
  go_wp2
  go_ret
  exact ⟨ret_int HX.out.symm, rfl⟩

theorem conv_bytes {W : World} {v : Value} {l : List UInt8} (h : Bs W v l) : (convert 28 9 v).run Try.prog W = .ok (.string (str l)) W := by
  obtain ⟨hl, ao, cap, rfl, hnc, hcm, hn0, hc⟩ := h
  rw [run_convert_bytes_string W 28 9 5 ao l.length cap Try.underlying28 Try.underlying5 Try.underlying9]
  cases ao with
  | none =>
    have : l = [] := List.eq_nil_of_length_eq_zero (by have := hn0 rfl; omega)
    subst this
    simp [Conv.bytesToString, Sem.run_pure, str]
    rfl
  | some a =>
    have hld : (loadCells a l.length).run Try.prog W = .ok ((l.map fun b => (b.toNat : Int)).map (Value.int .u8)).toArray W := by
      have e : (l.map fun b => (b.toNat : Int)).map (Value.int .u8) = l.map bv := by rw [List.map_map]; rfl
      rw [e]
      have h1 := run_loadCells_list (P := Try.prog) W a (l.map bv) ?_
      · rw [List.length_map] at h1
        exact h1
      · intro j u hj
        rcases hc with h0 | ⟨b, off, hao, hc⟩
        · have := (List.getElem?_eq_some_iff.1 hj).1
          simp at this
          omega
        · obtain rfl := Option.some.inj hao
          rw [Addr.add_lit]
          exact hc j u hj
    rw [run_bytesToString W a l.length cap _ hld, foldl_push]
    simp [str]

set_option maxRecDepth 100000 in
set_option maxHeartbeats 1000000 in
/-- The document's Same, of packets that are one. -/
theorem same6_yes (S N B Q E F L I : Int) (a1 a2 : Option Addr) (n1 n2 k1 k2 : Nat) (p : List UInt8) (w : World) (h1 : Bs w (.slice a1 n1 k1) p) (h2 : Bs w (.slice a2 n2 k2) p) :
    Calls Try.prog 45 #[.agg #[.int .u64 S, .int .i64 N, .int .i64 B, .int .i64 Q, .int .i64 E, .int .i64 F, .int .i64 L, .int .u64 I, .slice a1 n1 k1], .agg #[.int .u64 S, .int .i64 N, .int .i64 B, .int .i64 Q, .int .i64 E, .int .i64 F, .int .i64 L, .int .u64 I, .slice a2 n2 k2]] w fun e w' => e = .returned (.bool true) ∧ Below w.heap.size w w' := by
  have q1 := fun o o' => conv_bytes ((h1.below (below_alloc w o)).below (below_alloc (w.alloc o) o'))
  have q2 := fun o o' => conv_bytes ((h2.below (below_alloc w o)).below (below_alloc (w.alloc o) o'))
  clear h1 h2
  go_enter Try.func45, Try.ntmps45
  go_wp2
  go_ret
  exact ⟨rfl, (below_alloc _ _).alloc (by simp) _⟩

end Go.Proofs.Ytijonjiioeahhaa
