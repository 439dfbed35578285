/-
  The walks of crc.number, (*crc.Table).Seal and (*crc.Table).Right.
-/
import Derived.Test.YtecohgmllmddhaaCSum
import Derived.Deep.RegionWith
namespace Go.Proofs.Ytecohgmllmddhaa
open Go.RowKit
set_option linter.unusedVariables false

/-- Bytes as a number of 32 bits, the highest first. -/
def num32 (l : List UInt8) : Nat := l.foldl (fun n x => (n * 256 + x.toNat) % 4294967296) 0

theorem num32_lt (l : List UInt8) : num32 l < 4294967296 := by
  unfold num32
  suffices h : ∀ n, n < 4294967296 → l.foldl (fun n x => (n * 256 + x.toNat) % 4294967296) n < 4294967296 from h 0 (by omega)
  induction l with
  | nil => intro n h; exact h
  | cons x l ih => intro n h; exact ih _ (Nat.mod_lt _ (by omega))

theorem num32_next {l : List UInt8} {j : Nat} {m : Nat} {y : UInt8} (hj : j < l.length) (hy : l[j] = y) (h : m = num32 (l.take j)) : (m * 256 + y.toNat) % 4294967296 = num32 (l.take (j + 1)) := by
  rw [List.take_succ_eq_append_getElem hj, num32, List.foldl_append, hy, h]
  rfl

theorem or_nat (m : Nat) (y : UInt8) (hm : m < 4294967296) : bits BinOp.or IntKind.u32 ((m : Int) * 256 % 4294967296) (y.toNat : Int) = (((m * 256 + y.toNat) % 4294967296 : Nat) : Int) := by
  have hy := y.toNat_lt
  have e := u32_or_nat (m * 256 % 4294967296) y.toNat (by omega) (by omega)
  have e2 : (((m * 256 % 4294967296 : Nat) : Int)) = (m : Int) * 256 % 4294967296 := by omega
  have e3 := nat_join 8 (m * 256 % 4294967296) y.toNat (by omega) (by omega)
  rw [e2, e3] at e
  rw [e]
  omega

set_option maxRecDepth 100000 in
set_option maxHeartbeats 1000000 in
theorem number_some (b off n cap : Nat) (l : List UInt8) (w : World) (hn : l.length = n) (hnc : n ≤ cap) (hcm : cap ≤ maxLen)
    (hc : ∀ j u, (l.map bv)[j]? = some u → w.cell? ⟨b, off + j, none⟩ = some u) :
    Calls Try.prog 60 #[.slice (some ⟨b, off, none⟩) n cap] w fun e w' => e = .returned (.int .u32 (num32 l)) ∧ w' = w := by
  unfold maxLen at hcm
  go_enter Try.func60, Try.ntmps60
  go_wp2
  go_loop [3, 8] (fun r i => ∃ (j m : Nat), j ≤ n ∧ i = .int .i64 j ∧ r = .int .u32 m ∧ m < 4294967296 ∧ m = num32 (l.take j)) (fun _ i => n - (intOf i).toNat)
  case atStart => exact ⟨0, 0, by omega, rfl, rfl, by omega, rfl⟩
  case round =>
    obtain ⟨j, m, hj, rfl, rfl, hm, he⟩ := hrel
    have H : Hid (m = num32 (l.take j)) := he
    clear he
    by_cases hlt : j < n
    · have hjl : j < l.length := by omega
      have hcb := hc j _ (map_bv_at l j hjl)
      generalize hy : l[j] = y at *
      have Hy : Hid (l[j] = y) := hy
      clear hy hc
      have hyl := y.toNat_lt
      have HO : Hid (bits BinOp.or IntKind.u32 ((m : Int) * 256 % 4294967296) (y.toNat : Int) = (((m * 256 + y.toNat) % 4294967296 : Nat) : Int)) := or_nat m y hm
      go_wp2
      go_round
      case rel => exact ⟨j + 1, _, by omega, by go_num, int_val HO.out, Nat.mod_lt _ (by omega), num32_next hjl Hy.out H.out⟩
      case measure => simp [intOf]; omega
    · go_wp2
      go_ret
      exact ⟨ret_int (by rw [H.out, List.take_of_length_le (by omega)]), rfl⟩

theorem Bs.src {w : World} {ao : Option Addr} {n cap : Nat} {l : List UInt8} (h : Bs w (.slice ao n cap) l) :
    n = l.length ∧ (ao = none → n = 0 ∧ cap = 0) ∧ (∀ ad, ao = some ad → ∀ j u, (l.map bv)[j]? = some u → w.cell? (ad.add j) = some u) := by
  obtain ⟨h1, ao', cap', hv, h2, h3, h4, h5⟩ := h
  injection hv with e1 e2 e3
  subst e1; subst e2; subst e3
  refine ⟨rfl, fun e => ⟨by have := h4 e; omega, h4 e⟩, ?_⟩
  intro ad had j u hj
  have hjl := (List.getElem?_eq_some_iff.1 hj).1
  rcases h5 with h0 | ⟨b, off, hao, hc⟩
  · simp at hjl; omega
  · rw [hao] at had
    obtain rfl := Option.some.inj had
    rw [Addr.add_lit]
    exact hc j u hj

theorem Try.info5 : (Try.prog.info? 5).map (fun i => (i.zero, i.size, i.bytes)) = some (some (.int .u8 0), 1, 1) := by kernel_rfl

/-- A number of 32 bits as four bytes, the highest first. -/
def be4 (n : Nat) : List UInt8 := [UInt8.ofNat (n / 16777216), UInt8.ofNat (n / 65536), UInt8.ofNat (n / 256), UInt8.ofNat n]

def be4v (n : Nat) : List Value := [.int .u8 ((n : Int) / 16777216 % 256), .int .u8 ((n : Int) / 65536 % 256), .int .u8 ((n : Int) / 256 % 256), .int .u8 ((n : Int) % 256)]

theorem be4_cells (n : Nat) : be4v n = (be4 n).map bv := by
  simp [be4, be4v, bv]

theorem be4v_at (w : World) (n : Nat) : ∀ j u, (be4v n)[j]? = some u → (w.alloc (.cells #[.int .u8 ((n : Int) / 16777216 % 256), .int .u8 ((n : Int) / 65536 % 256), .int .u8 ((n : Int) / 256 % 256), .int .u8 ((n : Int) % 256)] 5)).cell? ((⟨w.heap.size, 0, none⟩ : Addr).add j) = some u := by
  intro j u hj
  rw [Addr.add_lit]
  simp only [Nat.zero_add]
  have : (w.alloc (.cells #[.int .u8 ((n : Int) / 16777216 % 256), .int .u8 ((n : Int) / 65536 % 256), .int .u8 ((n : Int) / 256 % 256), .int .u8 ((n : Int) % 256)] 5)).cell? ⟨w.heap.size, j, none⟩ = (be4v n)[j]? := by
    rw [World.cell?_alloc_new]
    simp [be4v]
  rw [this, hj]

theorem IsTab.below {w w' : World} {g : Nat} (h : IsTab w g) (hb : Below w.heap.size w w') : IsTab w' g :=
  fun i hi => (hb.cell (cell_block_lt (h i hi))).trans (h i hi)

set_option maxRecDepth 100000 in
set_option maxHeartbeats 1000000 in
/-- SEAL: a new row of the bytes with their sum behind them; nothing old is turned. -/
theorem seal_any (g : Nat) (v : Value) (l : List UInt8) (w : World) (hT : IsTab w g) (hl : Bs w v l) (hl2 : l.length ≤ 1000000) :
    Calls Try.prog 53 #[.pointer (some ⟨g, 0, none⟩), v] w fun e w' => e = .returned (.slice (some ⟨w.heap.size + 1, 0, none⟩) (l.length + 4) (l.length + 4)) ∧
      w'.ownsRow w.heap.size 5 1 (.slice (some ⟨w.heap.size + 1, 0, none⟩) (l.length + 4) (l.length + 4)) (l.length + 4) ((l ++ be4 (MathA.sum l)).map bv) ∧ Below w.heap.size w w' := by
  obtain ⟨i0, hi, hz0, hz1, hz2⟩ := info_parts Try.info5
  have hB := hl
  obtain ⟨_, ao, cap0, rfl, hnc, hcm, hn0, hcells⟩ := hl
  clear hcells
  unfold maxLen at hcm
  have hb0 : Below w.heap.size w (w.alloc (Obj.cells #[Value.slice ao l.length cap0] 27)) := (Below.refl _ _).alloc (Nat.le_refl _) _
  go_enter Try.func53, Try.ntmps53
  go_wp2_with fail
  refine (sum_any g _ [.slice ao l.length cap0] [l] _ (hT.below hb0) (alloc_one _ _) (parts_one (hB.below hb0))).mono ?_
  rintro e w' ⟨rfl, rfl⟩
  simp only [List.flatten_cons, List.flatten_nil, List.append_nil]
  generalize hs : MathA.sum l = sm
  go_wp2_with (first
    | (at_make; refine wpList_make_own _ rfl _ _ 27 rfl w.heap.size 5 i0 (.int .u8 0) 1 Try.underlying27 hi hz0 hz1 _ _ _ (l.length + 4) rfl rfl (by omega) (by rw [hz2]; omega) (by unfold maxLen; omega) (by simp) ?_; intro w1 hown1 hgrow1; have hb1 := hb0.grown hgrow1 (by simp) (by intro k hk; cases hk); have hB1 := hB.below hb1; obtain ⟨_, hB1n, hB1c⟩ := hB1.src; clear hB1)
    | (at_builtin; refine wpList_append_fits_any _ rfl (.tmp 15) (.tmp 16) 27 rfl w.heap.size 5 i0 1 Try.underlying27 hi hz1 (w.heap.size + 1) 0 (l.length + 4) [] rfl (by simpa using hown1) ao l.length cap0 (l.map bv) rfl (by simp) hB1n hB1c (bv_oneCell _) (by omega) ?_; intro w2 hown2 hgrow2; simp only [Nat.zero_add, List.nil_append] at hown2; clear hB1n hB1c)
    | (at_builtin; refine wpList_append_fits _ rfl (.tmp 18) (.tmp 30) 27 rfl w.heap.size 5 i0 1 Try.underlying27 hi hz1 (w.heap.size + 1) l.length (l.length + 4) (l.map bv) rfl (hown2.alloc _) ⟨w2.heap.size, 0, none⟩ 4 4 (be4v sm) rfl rfl (be4v_at w2 sm) (by rw [be4_cells]; exact bv_oneCell _) (by omega) ?_; intro w3 hown3 hgrow3))
  go_ret
  refine ⟨rfl, ?_, ?_⟩
  · rw [be4_cells] at hown3
    simpa [List.map_append] using hown3
  · have hb2 := hb1.grown hgrow2 (by have := hb1.size; omega) (by intro k hk; injection hk with hk; omega)
    exact (hb2.alloc (by have := hb2.size; omega) _).grown hgrow3 (by have := hb2.size; simp; omega) (by intro k hk; injection hk with hk; omega)

theorem ret_beq (A B : Nat) : Ending.returned (.bool ((A : Int) == (B : Int))) = .returned (.bool (A == B)) := by
  have h : ((A : Int) == (B : Int)) = (A == B) := by
    rw [Bool.eq_iff_iff]
    simp
    omega
  rw [h]

/-- Are bytes others with their sum behind them? -/
def rightB (l : List UInt8) : Bool := decide (4 ≤ l.length) && (num32 (l.drop (l.length - 4)) == MathA.sum (l.take (l.length - 4)))

set_option maxRecDepth 100000 in
set_option maxHeartbeats 1000000 in
theorem right_short (g : Nat) (v : Value) (l : List UInt8) (w : World) (hl : Bs w v l) (h4 : l.length < 4) :
    Calls Try.prog 42 #[.pointer (some ⟨g, 0, none⟩), v] w fun e w' => e = .returned (.bool (rightB l)) ∧ Below w.heap.size w w' := by
  have hr : rightB l = false := by unfold rightB; simp; omega
  rw [hr]
  obtain ⟨_, ao, cap0, rfl, hnc, hcm, hn0, hcells⟩ := hl
  go_enter Try.func42, Try.ntmps42
  go_wp2
  go_ret
  exact ⟨rfl, Below.refl _ _⟩

set_option maxRecDepth 100000 in
set_option maxHeartbeats 1000000 in
theorem right_long (g : Nat) (v : Value) (l : List UInt8) (w : World) (hT : IsTab w g) (hl : Bs w v l) (h4 : 4 ≤ l.length) :
    Calls Try.prog 42 #[.pointer (some ⟨g, 0, none⟩), v] w fun e w' => e = .returned (.bool (rightB l)) ∧ Below w.heap.size w w' := by
  obtain ⟨_, ao, cap0, rfl, hnc, hcm, hn0, hcells⟩ := hl
  rcases hcells with h0 | ⟨b, off, rfl, hc⟩
  · omega
  have hcm' := hcm
  unfold maxLen at hcm
  obtain ⟨n, hn⟩ : ∃ n, l.length = n + 4 := ⟨l.length - 4, by omega⟩
  have hR : rightB l = (num32 (l.drop n) == MathA.sum (l.take n)) := by
    have e : l.length - 4 = n := by omega
    unfold rightB
    rw [e]
    simp [h4]
  rw [hR]
  rw [hn] at hnc ⊢
  have hnum : ∀ W, Below w.heap.size w W → Calls Try.prog 60 #[.slice (some ⟨b, off + n, none⟩) 4 (cap0 - n)] W fun e w' => e = .returned (.int .u32 (num32 (l.drop n))) ∧ w' = W := by
    intro W hW
    refine number_some b (off + n) 4 (cap0 - n) (l.drop n) W (by simp; omega) (by omega) (by omega) ?_
    intro j u hj
    rw [List.map_drop, List.getElem?_drop] at hj
    have hc1 := hc (n + j) u hj
    rw [Nat.add_assoc]
    exact (hW.cell (cell_block_lt hc1)).trans hc1
  have hsum : ∀ W, Below w.heap.size w W → Sl 1 W (.slice (some ⟨w.heap.size, 0, none⟩) 1 1) 1 [.slice (some ⟨b, off, none⟩) n cap0] → Calls Try.prog 61 #[.pointer (some ⟨g, 0, none⟩), .slice (some ⟨w.heap.size, 0, none⟩) 1 1] W fun e w' => e = .returned (.int .u32 (MathA.sum (l.take n))) ∧ w' = W := by
    intro W hW hS
    have h := sum_any g _ [.slice (some ⟨b, off, none⟩) n cap0] [l.take n] W (hT.below hW) hS (parts_one ?_)
    · simpa using h
    · have hlt : (l.take n).length = n := by simp; omega
      unfold Bs
      rw [hlt]
      refine ⟨by simp; omega, _, _, rfl, by omega, hcm', fun h => by simp at h, .inr ⟨b, off, rfl, ?_⟩⟩
      intro j u hj
      have hjn : j < n := by have := (List.getElem?_eq_some_iff.1 hj).1; simp at this; omega
      rw [List.map_take, List.getElem?_take, if_pos hjn] at hj
      have hc1 := hc j u hj
      exact (hW.cell (cell_block_lt hc1)).trans hc1
  have Hnum : Hid (∀ W, Below w.heap.size w W → Calls Try.prog 60 #[.slice (some ⟨b, off + n, none⟩) 4 (cap0 - n)] W fun e w' => e = .returned (.int .u32 (num32 (l.drop n))) ∧ w' = W) := hnum
  have Hsum : Hid (∀ W, Below w.heap.size w W → Sl 1 W (.slice (some ⟨w.heap.size, 0, none⟩) 1 1) 1 [.slice (some ⟨b, off, none⟩) n cap0] → Calls Try.prog 61 #[.pointer (some ⟨g, 0, none⟩), .slice (some ⟨w.heap.size, 0, none⟩) 1 1] W fun e w' => e = .returned (.int .u32 (MathA.sum (l.take n))) ∧ w' = W) := hsum
  clear hnum hsum hR hc hT
  generalize num32 (l.drop n) = A at *
  generalize MathA.sum (l.take n) = B at *
  go_enter Try.func42, Try.ntmps42
  go_wp2
  go_region_with (first | (go_at_call 60; refine (Hnum.out _ (by first | exact (Below.refl _ _).drew | exact ((Below.refl _ _).alloc (Nat.le_refl _) _).drew)).mono ?_; rintro e w' ⟨rfl, rfl⟩) | (go_at_call 61; refine (Hsum.out _ (by exact ((Below.refl _ _).alloc (Nat.le_refl _) _).drew) (by exact alloc_one _ _)).mono ?_; rintro e w' ⟨rfl, rfl⟩))
  all_goals
    go_wp2
    go_ret
    exact ⟨ret_beq A B, ((Below.refl _ _).alloc (Nat.le_refl _) _).drew⟩

/-- RIGHT: nothing old is turned. -/
theorem right_any (g : Nat) (v : Value) (l : List UInt8) (w : World) (hT : IsTab w g) (hl : Bs w v l) :
    Calls Try.prog 42 #[.pointer (some ⟨g, 0, none⟩), v] w fun e w' => e = .returned (.bool (rightB l)) ∧ Below w.heap.size w w' := by
  by_cases h4 : 4 ≤ l.length
  · exact right_long g v l w hT hl h4
  · exact right_short g v l w hl (by omega)

end Go.Proofs.Ytecohgmllmddhaa
