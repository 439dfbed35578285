/-
  degree: Of, by sort.Search; the document's Of.
-/
import Derived.Test.YtbnedpjfgadkkaaDegD
namespace Go.Proofs.Ytbnedpjfgadkkaa
open Go.RowKit
set_option linter.unusedVariables false

/-- What the closure has captured. -/
structure DofI (w : World) (tv uv a F E u : Nat) : Prop where
  t : w.cell? ⟨tv, 0, none⟩ = some (.pointer (some ⟨a, 0, none⟩))
  u : w.cell? ⟨uv, 0, none⟩ = some (.int .u64 (u : Nat))
  d : IsDT w a F E

theorem DofI.below {w w' : World} {tv uv a F E u : Nat} (h : DofI w tv uv a F E u) (hb : Below w.heap.size w w') : DofI w' tv uv a F E u :=
  ⟨(hb.cell (cell_block_lt h.t)).trans h.t, (hb.cell (cell_block_lt h.u)).trans h.u, h.d.below hb⟩

set_option maxRecDepth 100000 in
set_option maxHeartbeats 1000000 in
theorem of1_any (tv uv a F E u j : Nat) (w : World) (h : DofI w tv uv a F E u) (hm : MayD F E) (hj : j + 1 < F) :
    Calls Try.prog 40 #[.int .i64 (j : Nat), .pointer (some ⟨tv, 0, none⟩), .pointer (some ⟨uv, 0, none⟩)] w fun e w' => e = .returned (.bool (decide (u < belowN F E (j + 1)))) ∧ Below w.heap.size w w' := by
  have h0 := h.t
  have HU : Hid (DofI w tv uv a F E u) := h
  have hf := hm.f4
  have HB : Hid (Calls Try.prog 41 #[.pointer (some ⟨a, 0, none⟩), .int .i64 ((j + 1 : Nat) : Int)] w fun e w' => e = .returned (.tuple #[.int .u64 (belowN F E (j + 1) : Nat), .bool true]) ∧ Below w.heap.size w w') := dbelow_yes a F E (j + 1) w h.d hm (by omega) hj
  have e1 : ((j + 1 : Nat) : Int) = (j : Int) + 1 := by simp
  rw [e1] at HB
  clear h hm e1
  generalize belowN F E (j + 1) = b at *
  go_enter Try.func40, Try.ntmps40
  go_wp2_with fail
  refine HB.out.mono ?_
  rintro e w1 ⟨rfl, hb⟩
  have H1 : Hid (Below w.heap.size w w1) := hb
  have hu := (HU.out.below hb).u
  clear hb HB
  by_cases hlt : u < b
  · have hlt' : (b : Int) > (u : Int) := by omega
    have HD : Hid (decide (u < b) = true) := decide_eq_true hlt
    clear hlt
    go_wp2
    go_ret
    exact ⟨ret_bool (by rw [HD.out]), H1.out⟩
  · have hlt' : ¬ (b : Int) > (u : Int) := by omega
    have HD : Hid (decide (u < b) = false) := decide_eq_false hlt
    clear hlt
    go_wp2
    go_ret
    exact ⟨ret_bool (by rw [HD.out]), H1.out⟩

/-- The search's bounds. -/
structure SrchI (F E u lo hi : Nat) : Prop where
  le : lo ≤ hi
  top : hi + 1 ≤ F
  below : ∀ t, t < lo → belowN F E (t + 1) ≤ u
  above : ∀ t, hi ≤ t → t + 1 < F → u < belowN F E (t + 1)

theorem srch_start {F E u : Nat} (h : 2 ≤ F) : SrchI F E u 0 (F - 1) := ⟨by omega, by omega, fun t ht => by omega, fun t h1 h2 => by omega⟩

theorem SrchI.up {F E u lo hi h : Nat} (I : SrchI F E u lo hi) (hm : MayD F E) (h1 : lo ≤ h) (h2 : h < hi) (hb : ¬ u < belowN F E (h + 1)) : SrchI F E u (h + 1) hi :=
  ⟨by omega, I.top, fun t ht => Nat.le_trans (below_mono hm (by omega) (by omega) (by have := I.top; omega)) (Nat.le_of_not_lt hb), I.above⟩

theorem SrchI.down {F E u lo hi h : Nat} (I : SrchI F E u lo hi) (hm : MayD F E) (h1 : lo ≤ h) (h2 : h < hi) (hb : u < belowN F E (h + 1)) : SrchI F E u lo h :=
  ⟨h1, by have := I.top; omega, I.below, fun t ht1 ht2 => Nat.lt_of_lt_of_le hb (below_mono hm (by omega) (by omega) ht2)⟩

theorem SrchI.done {F E u lo hi : Nat} (I : SrchI F E u lo hi) (h : ¬ lo < hi) : DegAt F E u (lo + 1) :=
  ⟨by omega, by have := I.top; have := I.le; omega, fun i h1 h2 => by have := I.below (i - 1) (by omega); rwa [show i - 1 + 1 = i by omega] at this, fun h2 => I.above lo (by omega) h2⟩

set_option maxRecDepth 100000 in
set_option maxHeartbeats 1000000 in
theorem search_any (tv uv a F E u : Nat) (w : World) (h : DofI w tv uv a F E u) (hm : MayD F E) :
    Calls Try.prog 39 #[.int .i64 ((F : Int) - 1), .func (Fn.func 40) #[] #[.pointer (some ⟨tv, 0, none⟩), .pointer (some ⟨uv, 0, none⟩)]] w fun e w' => ∃ d : Nat, e = .returned (.int .i64 (d : Nat)) ∧ DegAt F E u (d + 1) ∧ Below w.heap.size w w' := by
  have HU : Hid (DofI w tv uv a F E u) := h
  have HM : Hid (MayD F E) := hm
  have hf := hm.f4
  have hf2 := hm.f2
  have HI : Hid (SrchI F E u 0 (F - 1)) := srch_start hf2
  clear h hm
  go_enter Try.func39, Try.ntmps39
  go_wp2
  go_loopw [5, 6] (fun i j wr => ∃ (lo hi : Nat), i = .int .i64 (lo : Nat) ∧ j = .int .i64 (hi : Nat) ∧ hi ≤ 4096 ∧ lo ≤ 4096 ∧ Hid (SrchI F E u lo hi) ∧ Hid (Below w.heap.size w wr)) (fun i j _ => (intOf j).toNat - (intOf i).toNat)
  case atStart => exact ⟨0, F - 1, rfl, by go_num, by omega, by omega, HI, Below.refl _ _⟩
  case round =>
    obtain ⟨lo, hi, rfl, rfl, hh, hl, I, B⟩ := hrel
    clear HI
    by_cases hlt : lo < hi
    · obtain ⟨m, hmid⟩ : ∃ m, (lo + hi) / 2 = m := ⟨_, rfl⟩
      have e1 : ((lo : Int) + (hi : Int)) / 2 = (m : Int) := by omega
      have hm1 : lo ≤ m := by omega
      have hm2 : m < hi := by omega
      have hm3 : m + 1 < F := by have := I.out.top; omega
      have HC : Hid (∀ W, Below w.heap.size w W → Calls Try.prog 40 #[.int .i64 (m : Nat), .pointer (some ⟨tv, 0, none⟩), .pointer (some ⟨uv, 0, none⟩)] W fun e w' => e = .returned (.bool (decide (u < belowN F E (m + 1)))) ∧ Below W.heap.size W w') := fun W hW => of1_any tv uv a F E u m W (HU.out.below hW) HM.out hm3
      clear hmid hm3
      go_wp2_with fail
      refine (HC.out _ B.out).mono ?_
      rintro e w1 ⟨rfl, hb⟩
      have B1 : Hid (Below w.heap.size w w1) := B.out.trans (hb.mono B.out.size)
      clear hb B HC
      by_cases hd : u < belowN F E (m + 1)
      · have J : Hid (SrchI F E u lo m) := I.out.down HM.out hm1 hm2 hd
        have hd' : decide (u < belowN F E (m + 1)) = true := decide_eq_true hd
        rw [hd']
        clear I hd hd'
        go_wp2
        go_roundw
        case rel => exact ⟨lo, m, rfl, rfl, by omega, by omega, J, B1⟩
        case measure => simp [intOf]; omega
      · have J : Hid (SrchI F E u (m + 1) hi) := I.out.up HM.out hm1 hm2 hd
        have hd' : decide (u < belowN F E (m + 1)) = false := decide_eq_false hd
        rw [hd']
        clear I hd hd'
        go_wp2
        go_roundw
        case rel => exact ⟨m + 1, hi, by go_num, rfl, by omega, by omega, J, B1⟩
        case measure => simp [intOf]; omega
    · have D : Hid (DegAt F E u (lo + 1)) := I.out.done hlt
      clear I
      go_wp2
      go_ret
      exact ⟨lo, rfl, D.out, B.out⟩

set_option maxRecDepth 100000 in
set_option maxHeartbeats 1000000 in
/-- OF. -/
theorem dof_any (a F E u : Nat) (w : World) (h : IsDT w a F E) (hm : MayD F E) (hu : u < 18446744073709551616) :
    Calls Try.prog 27 #[.pointer (some ⟨a, 0, none⟩), .int .u64 (u : Nat)] w fun e w' => ∃ d : Nat, e = .returned (.int .i64 (d : Nat)) ∧ DegAt F E u d ∧ Below w.heap.size w w' := by
  have h0 := h.c0
  have hl := cell_block_lt h.c0
  have hf := hm.f4
  have hf2 := hm.f2
  have HM : Hid (MayD F E) := hm
  have HD : Hid (DofI ((w.alloc (.cells #[.pointer (some ⟨a, 0, none⟩)] 54)).alloc (.cells #[.int .u64 (u : Nat)] 24)) w.heap.size (w.heap.size + 1) a F E u) := by
    refine ⟨?_, ?_, ?_⟩
    · rw [(below_alloc _ _).cell (p := ⟨w.heap.size, 0, none⟩) (by simp)]; simp
    · have e : w.heap.size + 1 = (w.alloc (.cells #[.pointer (some ⟨a, 0, none⟩)] 54)).heap.size := by simp
      rw [e]; simp
    · exact (h.below (below_alloc _ _)).below (below_alloc _ _)
  clear hm h
  go_enter Try.func27, Try.ntmps27
  go_wp2_with fail
  refine (search_any _ _ a F E u _ HD.out HM.out).mono ?_
  rintro e w1 ⟨d, rfl, hd, hb⟩
  have hd2 := hd.hi
  have D : Hid (DegAt F E u (d + 1)) := hd
  have B : Hid (Below w.heap.size w w1) := ((below_alloc _ _).trans ((below_alloc _ _).mono (by simp))).trans (hb.mono (by simp; omega))
  clear hb HD hd
  go_wp2
  go_ret
  exact ⟨d + 1, ret_i (by omega), D.out, B.out⟩

/-- The document's loop. -/
def PastI (F E u k : Nat) : Prop := 1 ≤ k ∧ k ≤ F ∧ ∀ i, 1 ≤ i → i < k → belowN F E i ≤ u

set_option maxRecDepth 100000 in
set_option maxHeartbeats 1000000 in
/-- The document's Of. -/
theorem rdof_any (N B Q : Int) (F E u : Nat) (w : World) (hm : MayD F E) :
    Calls Try.prog 33 #[.agg #[.int .i64 N, .int .i64 B, .int .i64 Q, .int .i64 (E : Nat), .int .i64 (F : Nat)], .int .u64 (u : Nat)] w fun e w' => ∃ d : Nat, e = .returned (.int .i64 (d : Nat)) ∧ DegAt F E u d ∧ Below w.heap.size w w' := by
  have HM : Hid (MayD F E) := hm
  have hf := hm.f4
  have hf2 := hm.f2
  have HP : Hid (PastI F E u 1) := ⟨by omega, by omega, fun i h1 h2 => by omega⟩
  have F0 : Hid (Five (w.alloc (.cells #[.int .i64 N, .int .i64 B, .int .i64 Q, .int .i64 (E : Nat), .int .i64 (F : Nat)] 23)) w.heap.size N B Q E F) := five_new w _ N B Q E F
  clear hm
  go_enter Try.func33, Try.ntmps33
  go_wp2
  go_loopw [5] (fun i wr => ∃ (k : Nat), i = .int .i64 (k : Nat) ∧ k ≤ F ∧ Hid (PastI F E u k) ∧ Hid (Five wr w.heap.size N B Q E F ∧ Below w.heap.size w wr)) (fun i _ => F - (intOf i).toNat)
  case atStart => exact ⟨1, rfl, by omega, HP, F0.out, below_alloc _ _⟩
  case round =>
    obtain ⟨k, rfl, hk, P, G⟩ := hrel
    obtain ⟨c0, c1, c2, c3, c4⟩ := G.out.1
    clear F0 HP
    by_cases hlt : k < F
    · have HC : Hid (∀ W, Calls Try.prog 48 #[.agg #[.int .i64 N, .int .i64 B, .int .i64 Q, .int .i64 (E : Nat), .int .i64 (F : Nat)], .int .i64 (k : Nat)] W fun e w' => e = .returned (.int .u64 (belowN F E k : Nat)) ∧ Below W.heap.size W w') := fun W => rdbelow_any N B Q F E k W HM.out P.out.1 hlt
      have HX : Hid (∃ b, belowN F E k = b) := ⟨_, rfl⟩
      obtain ⟨b, hb⟩ := HX.out
      rw [hb] at HC
      have HE : Hid (belowN F E k = b) := hb
      clear hb HX
      go_wp2_with fail
      refine (HC.out _).mono ?_
      rintro e w1 ⟨rfl, hb⟩
      have G1 : Hid (Five w1 w.heap.size N B Q E F ∧ Below w.heap.size w w1) := ⟨G.out.1.below hb, G.out.2.trans (hb.mono G.out.2.size)⟩
      clear hb HC G c0 c1 c2 c3 c4
      by_cases hd : u < b
      · have hd' : (u : Int) < (b : Int) := by omega
        have D : Hid (DegAt F E u k) := ⟨P.out.1, P.out.2.1, P.out.2.2, fun _ => by rw [HE.out]; exact hd⟩
        clear P HE hd
        go_wp2
        go_ret
        exact ⟨k, rfl, D.out, G1.out.2⟩
      · have hd' : ¬ (u : Int) < (b : Int) := by omega
        have P2 : Hid (PastI F E u (k + 1)) := ⟨by omega, by omega, fun i h1 h2 => by
          by_cases e : i = k
          · rw [e, HE.out]; omega
          · exact P.out.2.2 i h1 (by omega)⟩
        clear P HE hd
        go_wp2
        go_roundw
        case rel => exact ⟨k + 1, by go_num, by omega, P2, G1⟩
        case measure => simp [intOf]; omega
    · have D : Hid (DegAt F E u F) := ⟨by omega, Nat.le_refl _, fun i h1 h2 => P.out.2.2 i h1 (by omega), fun h => by omega⟩
      clear P
      go_wp2
      go_ret
      exact ⟨F, rfl, D.out, G.out.2⟩

end Go.Proofs.Ytbnedpjfgadkkaa
