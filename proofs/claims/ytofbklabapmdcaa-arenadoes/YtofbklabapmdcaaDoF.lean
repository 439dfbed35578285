/-
  The document's list beside the arena: the same blocks under the same numbers.
-/
import Derived.Test.YtofbklabapmdcaaDoE
namespace Go.Proofs.Ytofbklabapmdcaa
open Go.RowKit
set_option linter.unusedVariables false

structure SameL (l : List RB) (s : Ar) : Prop where
  hit : ∀ (i : Nat) (x : RB), l[i]? = some x → ∃ q, s.bl[x.n]? = some ⟨q, x.b, true⟩
  held : ∀ k : Nat, s.has (k : Int) = true → ∃ (i : Nat) (x : RB), l[i]? = some x ∧ x.n = k
  uniq : (l.map RB.n).Nodup
  live : s.live = (l.length : Int)

theorem find_same {l : List RB} {s : Ar} (h : SameL l s) (i : Int) : (∃ (j : Nat) (y : RB) (q : Nat), l[j]? = some y ∧ (y.n : Int) = i ∧ findI l i = (j : Int) ∧ s.bl[y.n]? = some ⟨q, y.b, true⟩ ∧ s.has i = true) ∨ (findI l i = -1 ∧ s.has i = false ∧ ∀ (k : Nat) (x : RB), l[k]? = some x → (x.n : Int) ≠ i) := by
  rcases find_cases l i with ⟨j, y, hj, hy, hf⟩ | ⟨hf, hno⟩
  · left
    obtain ⟨q, hq⟩ := h.hit j y hj
    exact ⟨j, y, q, hj, hy, hf, hq, by rw [← hy]; exact has_mk hq rfl⟩
  · right
    refine ⟨hf, ?_, hno⟩
    cases hh : s.has i with
    | false => rfl
    | true =>
      obtain ⟨k, x, hk, hx, hg⟩ := has_iff hh
      obtain ⟨j, y, hj, hy⟩ := h.held k (has_mk hx hg)
      exact absurd (by rw [hy]; omega) (hno j y hj)

theorem has_quiet (B a : Nat) (s : Ar) (i : Int) (b : Bool) (w : World) (h : IsAr w B a s) (hb : s.has i = b) :
    Calls Try.prog 17 #[.pointer (some ⟨a, 0, none⟩), .int .i64 i] w fun e w' => e = .returned (.bool b) ∧ ∃ n, w' = w.drewN n := by
  refine (has_any B a s i w h).mono ?_
  rintro e w' ⟨rfl, rfl⟩
  rw [hb]
  exact ⟨rfl, 0, rfl⟩

set_option maxHeartbeats 4000000 in
set_option maxRecDepth 100000 in
theorem same_any (a : Nat) (s : Ar) (size : Nat) (v : Value) (l : List RB) (room : Nat) (w : World) (hA : IsAr w a a s) (hz : s.size = size) (h : RBs w size v l) (hS : SameL l s) (hB : ∀ (i : Nat) (x : RB), l[i]? = some x → Blk w x.q [] x.b [] ∧ x.b.length = size) (hl : l.length ≤ 1000) (hs : size ≤ 1000) (hroom : room ≤ 1000) :
    Calls Try.prog 16 #[.pointer (some ⟨a, 0, none⟩), v, .int .i64 room] w fun e w' => e = .returned (.bool true) ∧ Below w.heap.size w w' := by
  have HA : Hid (IsAr w a a s) := hA
  have HZ : Hid (s.size = size) := hz
  have HS : Hid (SameL l s) := hS
  have HB : Hid (∀ (i : Nat) (x : RB), l[i]? = some x → Blk w x.q [] x.b [] ∧ x.b.length = size) := hB
  have H : Hid (RBs w size v l) := h
  obtain ⟨-, ao, cap, rfl, h2, h3, -, -⟩ := h
  unfold maxLen at h3
  obtain ⟨n, hn⟩ : ∃ n, l.length = n := ⟨_, rfl⟩
  rw [hn] at h2 hl ⊢
  have H' : Hid (RBs w size (.slice ao n cap) l) := by have h := H.out; rw [hn] at h; exact h
  have Hn : Hid (l.length = n) := hn
  clear H hn hA hz hS hB
  go_enter Try.func16, Try.ntmps16
  go_wp2
  go_loopw [11] (fun c wr => ∃ t : Nat, t ≤ room ∧ c = .int .i64 t ∧ Below w.heap.size w wr) (fun c _ => room - (intOf c).toNat)
  case atStart => exact ⟨0, by omega, rfl, Below.refl _ _⟩
  case round =>
    obtain ⟨t, ht, rfl, hX⟩ := hrel
    have HX : Hid (Below w.heap.size w wr) := hX
    have A1 : Hid (IsAr wr a a s) := HA.out.below hX
    have R1 : Hid (RBs wr size (.slice ao n cap) l) := Sl.below H'.out hX
    clear hX
    by_cases hlt : t < room
    · rcases find_same HS.out (t : Int) with ⟨j, y, q, hj, hy, hf, hq, hh⟩ | ⟨hf, hh, -⟩
      · have hjn : j < n := by rw [← Hn.out]; exact (List.getElem?_eq_some_iff.1 hj).1
        obtain ⟨b0, o0, hao, -, hc1⟩ := R1.out.cells hj
        subst hao
        have hbb := HB.out j y hj
        have hyt : y.n = t := by omega
        rw [hyt] at hq
        have HF : Hid (findI l (t : Int) = (j : Int)) := hf
        have HQ : Hid (s.bl[t]? = some ⟨q, y.b, true⟩ ∧ s.has (t : Int) = true) := ⟨hq, hh⟩
        clear hf hq hh hj hy hyt
        go_wp2_with fail
        refine (find_any size _ l t wr R1.out).mono ?_
        rintro e w5 ⟨rfl, hw5⟩
        subst hw5
        rw [HF.out]
        go_wp2_with fail
        refine (get_yes a a s t _ w5 A1.out HQ.out.1 rfl).mono ?_
        rintro e w6 ⟨rfl, hb6, hx6⟩
        have X6 : Hid (Below w.heap.size w w6) := HX.out.trans (hx6.mono HX.out.size)
        have A6 : Hid (IsAr w6 a a s) := A1.out.below hx6
        have hc6 : w6.cell? ⟨b0, o0 + j * 2 + 1, none⟩ = some (.slice (some ⟨y.q, 0, none⟩) size size) := (hx6.cell (cell_block_lt hc1)).trans hc1
        have bu : Bs w6 (.slice (some ⟨w5.heap.size, 0, none⟩) size size) y.b := hb6.bs0 size size hbb.2.symm (Nat.le_refl _) (by unfold maxLen; omega)
        have bw : Bs w6 (.slice (some ⟨y.q, 0, none⟩) size size) y.b := (hbb.1.below X6.out).bs0 size size hbb.2.symm (Nat.le_refl _) (by unfold maxLen; omega)
        have k1 := fun n => conv_bytes (bu.below (below_drewN (Below.refl _ _) n))
        have k2 := fun n => conv_bytes (bw.below (below_drewN (Below.refl _ _) n))
        have k1' := conv_bytes bu
        have k2' := conv_bytes bw
        have hst := str_toList
        have hjI : (j : Int) < (n : Int) := by omega
        have hj0 : ¬ ((j : Int) < 0) := by omega
        have hj0d : decide ((j : Int) < 0) = false := by simp
        rw [HZ.out]
        clear hb6 hx6 bu bw hc1 hbb A1 R1
        generalize y.b = x at *
        go_wp2
        go_quiet ((go_at_call 17; exact Calls.quiet_of (has_quiet a a s _ true _ (A6.out.below (below_drewN (Below.refl _ _) _)) HQ.out.2)))
        have HN : Hid (Below w.heap.size w (w6.drewN nq)) := below_drewN X6.out nq
        go_wp2
        go_roundw
        case rel => exact ⟨t + 1, by omega, by go_num, HN.out⟩
        case measure => simp [intOf]; omega
      · have HF : Hid (findI l (t : Int) = -1) := hf
        have HQ : Hid (s.has (t : Int) = false) := hh
        clear hf hh
        go_wp2_with fail
        refine (find_any size _ l t wr R1.out).mono ?_
        rintro e w5 ⟨rfl, hw5⟩
        subst hw5
        rw [HF.out]
        go_wp2_with fail
        refine (get_no a a s t w5 A1.out HQ.out).mono ?_
        rintro e w6 ⟨rfl, hw6⟩
        subst hw6
        go_wp2
        go_quiet ((go_at_call 17; exact Calls.quiet_of (has_quiet a a s _ false _ (A1.out.below (below_drewN (Below.refl _ _) _)) HQ.out)))
        have HN : Hid (Below w.heap.size w (w6.drewN nq)) := below_drewN HX.out nq
        go_wp2
        go_roundw
        case rel => exact ⟨t + 1, by omega, by go_num, HN.out⟩
        case measure => simp [intOf]; omega
    · go_wp2
      go_ret
      exact ⟨rfl, HX.out⟩

end Go.Proofs.Ytofbklabapmdcaa
