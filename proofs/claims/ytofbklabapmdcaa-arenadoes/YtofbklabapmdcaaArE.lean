/-
  The walks of package arena, fourth part: Free.
-/
import Derived.Test.YtofbklabapmdcaaArD
namespace Go.Proofs.Ytofbklabapmdcaa
open Go.RowKit
set_option linter.unusedVariables false

theorem Try.infoInt : (Try.prog.info? 3).map (fun i => (i.zero, i.size, i.bytes)) = some (some (.int .i64 0), 1, 8) := by kernel_rfl

set_option maxRecDepth 100000 in
set_option maxHeartbeats 400000 in
/-- Free of a block that isn't given out: nothing. -/
theorem free_no (B a : Nat) (s : Ar) (i : Int) (w : World) (h : IsAr w B a s) (hh : s.has i = false) :
    Calls Try.prog 9 #[.pointer (some ⟨a, 0, none⟩), .int .i64 i] w fun e w' => e = .returned (.bool false) ∧ w' = w := by
  have HA : Hid (IsAr w B a s) := h
  clear h
  go_enter Try.func9, Try.ntmps9
  go_wp2_with fail
  refine (has_any B a s i w HA.out).mono ?_
  rintro e w1 ⟨rfl, rfl⟩
  rw [hh]
  go_wp2
  go_ret
  exact ⟨rfl, rfl⟩

/-- Behind a Free. -/
def Ar.freed (s : Ar) (k : Nat) (vb : Value) : Ar := { s.setG k false with vb := vb, back := s.back ++ [k] }

theorem freed_inv {w : World} {B a : Nat} {s : Ar} (h : IsAr w B a s) {k : Nat} {x : Bk} (hx : s.bl[k]? = some x) (hg : x.g = true) (vb : Value) :
    (s.freed k vb).back.Nodup ∧ ∀ i, i ∈ (s.freed k vb).back ↔ ∃ x, (s.freed k vb).bl[i]? = some x ∧ x.g = false := by
  have hk : k ∉ s.back := by
    intro hm
    obtain ⟨y, hy, hyg⟩ := (h.mem k).1 hm
    rw [hx] at hy
    obtain rfl := Option.some.inj hy
    rw [hg] at hyg
    cases hyg
  constructor
  · show (s.back ++ [k]).Nodup
    rw [List.nodup_append]
    exact ⟨h.nodup, by simp, fun y hy z hz => by simp at hz; subst hz; intro e; subst e; exact hk hy⟩
  · intro i
    show i ∈ s.back ++ [k] ↔ ∃ x, (s.setG k false).bl[i]? = some x ∧ x.g = false
    rw [List.mem_append, h.mem i, setG_at]
    by_cases e : k = i
    · subst e
      simp [hx]
    · rw [if_neg e]
      simp [show ¬ i = k from fun e' => e e'.symm]

set_option maxRecDepth 100000 in
set_option maxHeartbeats 1000000 in
/-- Free: a block comes back. -/
theorem free_yes (B a : Nat) (s : Ar) (k : Nat) (x : Bk) (w : World) (h : IsAr w B a s) (hx : s.bl[k]? = some x) (hg : x.g = true) (hmany : s.bl.length ≤ 1000000) :
    Calls Try.prog 9 #[.pointer (some ⟨a, 0, none⟩), .int .i64 k] w fun e w' => e = .returned (.bool true) ∧ ∃ vb, IsAr w' B a (s.freed k vb) ∧ KeepsBut (s.own a) w w' ∧ (vb.ownBlock = s.vb.ownBlock ∨ ∃ q, vb.ownBlock = some q ∧ w.heap.size ≤ q) := by
  obtain ⟨i0, hi, hz0, hz1, hz2⟩ := info_parts Try.infoInt
  have HA : Hid (IsAr w B a s) := h
  have HI : Hid (s.bl[k]? = some x ∧ x.g = true) := ⟨hx, hg⟩
  have HH : Hid (s.has (k : Int) = true) := has_mk hx hg
  have hk : k < s.bl.length := (List.getElem?_eq_some_iff.1 hx).1
  have c2 := h.cell2
  obtain ⟨g, cap', hv', hnc', hcm', c4, c5, hfr⟩ := h.slot hx
  have HV : Hid (s.vm = .slice (some ⟨g, 0, none⟩) s.bl.length cap') := hv'
  rw [hv'] at c2
  have hf5 := hfr (k * 2 + 1)
  have HM2 : Hid (ArMem (w.setCell ⟨g, k * 2 + 1, none⟩ (.bool false)) B a (s.setG k false)) := h.toMem.setG hk hv' false
  have HK2 : Hid (KeepsBut (s.own a) w (w.setCell ⟨g, k * 2 + 1, none⟩ (.bool false))) := KeepsBut.ofGrown (grown_setCell w g _ _) (.inr (.inl (by rw [hv']; rfl)))
  have hbl : s.back.length ≤ 1000000 := by
    have h1 := nodup_le s.bl.length s.back h.nodup (fun i hi => by
      obtain ⟨y, hy, _⟩ := (h.mem i).1 hi
      exact (List.getElem?_eq_some_iff.1 hy).1)
    omega
  clear h hfr hx hg hv' hcm' c4 hmany
  obtain ⟨n, hn⟩ : ∃ n, s.bl.length = n := ⟨_, rfl⟩
  rw [hn] at hk c2 hnc'
  clear hn
  go_enter Try.func9, Try.ntmps9
  go_wp2_with fail
  refine (has_any B a s k w HA.out).mono ?_
  rintro e w1 ⟨rfl, rfl⟩
  rw [HH.out]
  go_upto_region 4 with fail
  clear c2 c5 hf5
  generalize w1.setCell ⟨g, k * 2 + 1, none⟩ (.bool false) = w2 at *
  have c3 : w2.cell? ⟨a, 3, none⟩ = some s.vb := by simp [World.cell?, HM2.out.at4]; rfl
  have HO : Hid ((w2.alloc (.cells #[.int .i64 (k : Int)] 3)).ownsRow B 3 1 s.vb s.back.length (s.back.map fun i : Nat => Value.int .i64 (i : Int))) := HM2.out.backs.alloc _
  go_upto_region 5 with (at_builtin; refine wpList_app _ rfl (.tmp 20) (.tmp 22) 27 rfl B 3 i0 (.int .i64 0) 1 8 Try.underlying27 hi hz0 hz1 hz2 rfl (by decide) _ _ _ rfl HO.out _ 1 _ rfl (alloc_one _ _) (by simp [Value.oneCell']) (by unfold maxLen; omega) (by omega) (by have := HM2.out.ha; have := HM2.out.a_lt; simp; omega) ?_; intro a7 c7 w7 hO7 hg7 hat7 hne7 hnc7 hcm7; have c3' : w7.cell? ⟨a, 3, none⟩ = some s.vb := (by rw [← c3, World.cell?_of_block (a := ⟨a, 3, none⟩) (hg7.block a (by have := HM2.out.a_lt; simp; omega) (fun e => (HM2.out.kinds.2.1 a e.symm).2.1 rfl)), World.cell?_of_block (a := ⟨a, 3, none⟩) (Below.heap_alloc _ _ _ HM2.out.a_lt)]); have hf3 : w7.frozen? ⟨a, 3, none⟩ = false := (by rw [World.frozen?_of_block (a := ⟨a, 3, none⟩) (hg7.block a (by have := HM2.out.a_lt; simp; omega) (fun e => (HM2.out.kinds.2.1 a e.symm).2.1 rfl)), World.frozen?_of_block (a := ⟨a, 3, none⟩) (Below.heap_alloc _ _ _ HM2.out.a_lt)]; simp [World.frozen?, HM2.out.at4]))
  have hg7' : (w2.alloc (.cells #[.int .i64 (k : Int)] 3)).grownBy w7 s.vb.ownBlock := hg7
  have hat7' : (Value.slice a7 (s.back.length + 1) c7).ownBlock = s.vb.ownBlock ∨ (Value.slice a7 (s.back.length + 1) c7).ownBlock = some (w2.heap.size + 1) := by
    have := hat7
    rw [World.size_alloc] at this
    exact this
  have R : Hid (∃ vb, IsAr (w7.setCell ⟨a, 3, none⟩ (.slice a7 (s.back.length + 1) c7)) B a (s.freed k vb) ∧ KeepsBut (s.own a) w1 (w7.setCell ⟨a, 3, none⟩ (.slice a7 (s.back.length + 1) c7)) ∧ (vb.ownBlock = s.vb.ownBlock ∨ ∃ q, vb.ownBlock = some q ∧ w1.heap.size ≤ q)) := by
    obtain ⟨i1, i2⟩ := freed_inv HA.out HI.out.1 HI.out.2 (.slice a7 (s.back.length + 1) c7)
    have hO : w7.ownsRow B 3 1 (.slice a7 (s.back.length + 1) c7) (s.back ++ [k]).length ((s.back ++ [k]).map fun i : Nat => Value.int .i64 (i : Int)) := by
      rw [List.length_append, List.map_append]
      exact hO7
    refine ⟨_, ((HM2.out.below (below_alloc _ _)).setBack hg7' hO).toAr i1 i2, ?_, ?_⟩
    · refine (HK2.out.trans (KeepsBut.ofBelow (below_alloc _ _))).trans ((KeepsBut.ofGrownO hg7' (fun q hq => .inl (.inr (.inr (.inl hq))))).trans (KeepsBut.setCell _ _ _ _ (.inl rfl)))
    · rcases hat7' with h1 | h1
      · exact .inl h1
      · exact .inr ⟨_, h1, by have := HK2.out.size; omega⟩
  clear hO7 hg7 hg7' hat7 hat7' hne7 hnc7 hcm7 c3 c3' hf3 HO
  generalize w7.setCell ⟨a, 3, none⟩ (.slice a7 (s.back.length + 1) c7) = w8 at *
  go_wp2
  go_ret
  exact ⟨rfl, R.out⟩

end Go.Proofs.Ytofbklabapmdcaa
