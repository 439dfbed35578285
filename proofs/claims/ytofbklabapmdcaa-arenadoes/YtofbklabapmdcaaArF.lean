/-
  The walks of package arena, fifth part: another, again, Alloc.
-/
import Derived.Test.YtofbklabapmdcaaArE
namespace Go.Proofs.Ytofbklabapmdcaa
open Go.RowKit
set_option linter.unusedVariables false

theorem Try.infoSlot : (Try.prog.info? 54).map (fun i => (i.zero, i.size, i.bytes)) = some (some (.agg #[.slice none 0 0, .bool false]), 2, 32) := by kernel_rfl

/-- Behind a block more. -/
def Ar.more (s : Ar) (q : Nat) (vm : Value) : Ar := { s with vm := vm, bl := s.bl ++ [⟨q, zeros s.size, true⟩] }

theorem more_inv {w : World} {B a : Nat} {s : Ar} (h : IsAr w B a s) (q : Nat) (vm : Value) :
    (s.more q vm).back.Nodup ∧ ∀ i, i ∈ (s.more q vm).back ↔ ∃ x, (s.more q vm).bl[i]? = some x ∧ x.g = false := by
  refine ⟨h.nodup, fun i => ?_⟩
  show i ∈ s.back ↔ ∃ x, (s.bl ++ [(⟨q, zeros s.size, true⟩ : Bk)])[i]? = some x ∧ x.g = false
  rw [h.mem i]
  by_cases hi : i < s.bl.length
  · rw [List.getElem?_append_left hi]
  · constructor
    · rintro ⟨x, hx, _⟩
      exact absurd (List.getElem?_eq_some_iff.1 hx).1 hi
    · rintro ⟨x, hx, hg⟩
      exfalso
      have := (List.getElem?_eq_some_iff.1 hx).1
      simp at this
      have e : i = s.bl.length := by omega
      subst e
      simp at hx
      subst hx
      cases hg

theorem lit2 (w : World) (u v : Value) (t : TypeId) : Sl 2 (w.alloc (.cells #[u, v] t)) (.slice (some ⟨w.heap.size, 0, none⟩) 1 1) 1 [u, v] := by
  refine ⟨rfl, _, _, rfl, Nat.le_refl _, by simp [maxLen], fun h => by simp at h, .inr ⟨_, _, rfl, ?_⟩⟩
  intro j x hj
  rw [World.cell?_alloc_new, Nat.zero_add]
  simpa using hj

theorem sl_nil (w : World) : Sl 1 w (.slice none 0 0) ([] : List Value).length [] := ⟨rfl, none, 0, rfl, Nat.le_refl _, by simp [maxLen], fun _ => rfl, .inl rfl⟩

set_option maxRecDepth 100000 in
set_option maxHeartbeats 1000000 in
/-- another: a block that never was given out. -/
theorem another_any (B a : Nat) (s : Ar) (w : World) (h : IsAr w B a s) (hmany : s.bl.length ≤ 1000000) :
    Calls Try.prog 22 #[.pointer (some ⟨a, 0, none⟩)] w fun e w' => e = .returned (.tuple #[.int .i64 s.bl.length, .bool true]) ∧ ∃ vm, IsAr w' B a (s.more w.heap.size vm) ∧ KeepsBut (s.own a) w w' ∧ (vm.ownBlock = s.vm.ownBlock ∨ ∃ q, vm.ownBlock = some q ∧ w.heap.size ≤ q) := by
  obtain ⟨i0, hi, hz0, hz1, hz2⟩ := info_parts Try.infoSlot
  have HA : Hid (IsAr w B a s) := h
  have c0 := h.cell0
  have hsm := h.small
  clear h
  go_enter Try.func22, Try.ntmps22
  go_wp2_with fail
  refine (sum_yes s.size _ [] [] w hsm (sl_nil w) ⟨rfl, fun i v p h => by simp at h⟩ rfl).mono ?_
  rintro e w1 ⟨rfl, hb1, hx1⟩
  have B1 : Hid (Blk w1 w.heap.size [] (zeros s.size) []) := hb1
  have X1 : Hid (Below w.heap.size w w1) := hx1
  have M1 : Hid (ArMem w1 B a s) := HA.out.toMem.below hx1
  clear hb1 hx1 c0
  have c2 : w1.cell? ⟨a, 2, none⟩ = some s.vm := by simp [World.cell?, M1.out.at4]
  have HO : Hid ((w1.alloc (.cells #[.slice (some ⟨w.heap.size, 0, none⟩) s.size s.size, .bool true] 54)).ownsRow B 54 2 s.vm s.bl.length (s.bl.flatMap (slotCells s.size))) := M1.out.made.alloc _
  go_upto_region 5 with (at_builtin; refine wpList_app _ rfl (.tmp 20) (.tmp 23) 50 rfl B 54 i0 _ 2 32 Try.underlying50 hi hz0 hz1 hz2 rfl (by decide) _ _ _ rfl HO.out _ 1 _ rfl (lit2 _ _ _ _) (by simp [Value.oneCell']) (by unfold maxLen; omega) (by omega) (by have := M1.out.ha; have := M1.out.a_lt; simp; omega) ?_; intro a7 c7 w7 hO7 hg7 hat7 hne7 hnc7 hcm7; have c2' : w7.cell? ⟨a, 2, none⟩ = some s.vm := (by rw [← c2, World.cell?_of_block (a := ⟨a, 2, none⟩) (hg7.block a (by have := M1.out.a_lt; simp; omega) (fun e => (M1.out.kinds.1 a e.symm).2.1 rfl)), World.cell?_of_block (a := ⟨a, 2, none⟩) (Below.heap_alloc _ _ _ M1.out.a_lt)]); have hf3 : w7.frozen? ⟨a, 2, none⟩ = false := (by rw [World.frozen?_of_block (a := ⟨a, 2, none⟩) (hg7.block a (by have := M1.out.a_lt; simp; omega) (fun e => (M1.out.kinds.1 a e.symm).2.1 rfl)), World.frozen?_of_block (a := ⟨a, 2, none⟩) (Below.heap_alloc _ _ _ M1.out.a_lt)]; simp [World.frozen?, M1.out.at4]))
  have hg7' : (w1.alloc (.cells #[.slice (some ⟨w.heap.size, 0, none⟩) s.size s.size, .bool true] 54)).grownBy w7 s.vm.ownBlock := hg7
  have hat7' : (Value.slice a7 (s.bl.length + 1) c7).ownBlock = s.vm.ownBlock ∨ (Value.slice a7 (s.bl.length + 1) c7).ownBlock = some (w1.heap.size + 1) := by
    have := hat7
    rw [World.size_alloc] at this
    exact this
  have R : Hid (∃ vm, IsAr (w7.setCell ⟨a, 2, none⟩ (.slice a7 (s.bl.length + 1) c7)) B a (s.more w.heap.size vm) ∧ KeepsBut (s.own a) w (w7.setCell ⟨a, 2, none⟩ (.slice a7 (s.bl.length + 1) c7)) ∧ (vm.ownBlock = s.vm.ownBlock ∨ ∃ q, vm.ownBlock = some q ∧ w.heap.size ≤ q)) := by
    obtain ⟨i1, i2⟩ := more_inv HA.out w.heap.size (.slice a7 (s.bl.length + 1) c7)
    have hM := (M1.out.below (below_alloc w1 (.cells #[.slice (some ⟨w.heap.size, 0, none⟩) s.size s.size, .bool true] 54))).setMade (x := ⟨w.heap.size, zeros s.size, true⟩) hg7' hO7 (by have := HA.out.own_ge a (.inl rfl); have := HA.out.own_lt a (.inl rfl); show B ≤ w.heap.size; omega) (B1.out.below (below_alloc _ _)) (zeros_length _)
      (fun i y hy => by have := (HA.out.blk i y hy).2.1.lt; show y.q ≠ w.heap.size; omega)
    refine ⟨_, hM.toAr i1 i2, ?_, ?_⟩
    · exact ((KeepsBut.ofBelow X1.out).trans (KeepsBut.ofBelow (below_alloc _ _))).trans ((KeepsBut.ofGrownO hg7' (fun q hq => .inl (.inr (.inl hq)))).trans (KeepsBut.setCell _ _ _ _ (.inl rfl)))
    · rcases hat7' with h1 | h1
      · exact .inl h1
      · exact .inr ⟨_, h1, by have := X1.out.size; omega⟩
  have c2'' : (w7.setCell ⟨a, 2, none⟩ (.slice a7 (s.bl.length + 1) c7)).cell? ⟨a, 2, none⟩ = some (.slice a7 (s.bl.length + 1) c7) := by
    exact World.cell?_setCell_same' _ _ _ (by rw [c2']; rfl)
  unfold maxLen at hcm7
  clear hO7 hg7 hg7' hat7 hat7' hne7 c2 c2' hf3 HO
  generalize w7.setCell ⟨a, 2, none⟩ (.slice a7 (s.bl.length + 1) c7) = w8 at *
  go_wp2
  go_ret2
  exact ⟨rfl, R.out⟩

/-- Behind a block taken again. -/
def Ar.taken (s : Ar) (k : Nat) (vb : Value) (back : List Nat) : Ar := { (s.setB k (zeros s.size)).setG k true with vb := vb, back := back }

theorem taken_at {s : Ar} {k j : Nat} {vb : Value} {back : List Nat} : (s.taken k vb back).bl[j]? = if k = j then (s.bl[j]?).map (fun x => { x with b := zeros s.size, g := true }) else s.bl[j]? := by
  show ((s.setB k (zeros s.size)).setG k true).bl[j]? = _
  rw [setG_at, setB_at]
  by_cases h : k = j
  · simp only [h, if_true, Option.map_map]
    rfl
  · simp [h]

theorem taken_inv {w : World} {B a : Nat} {s : Ar} (h : IsAr w B a s) {k : Nat} {back : List Nat} (hk : s.back = back ++ [k]) (vb : Value) :
    (s.taken k vb back).back.Nodup ∧ ∀ i, i ∈ (s.taken k vb back).back ↔ ∃ x, (s.taken k vb back).bl[i]? = some x ∧ x.g = false := by
  have hn := h.nodup
  rw [hk, List.nodup_append] at hn
  refine ⟨hn.1, fun i => ?_⟩
  show i ∈ back ↔ _
  rw [taken_at]
  by_cases e : k = i
  · subst e
    rw [if_pos rfl]
    constructor
    · intro hm
      exact absurd rfl (hn.2.2 k hm k (by simp))
    · rintro ⟨x, hx, hg⟩
      cases hb : s.bl[k]? with
      | none => rw [hb] at hx; simp at hx
      | some y => rw [hb] at hx; simp at hx; subst hx; cases hg
  · rw [if_neg e, ← h.mem i, hk]
    simp [show ¬ i = k from fun e' => e e'.symm]

set_option maxRecDepth 100000 in
set_option maxHeartbeats 1000000 in
/-- again: the block that came back last. -/
theorem again_any (B a : Nat) (s : Ar) (k : Nat) (back : List Nat) (w : World) (h : IsAr w B a s) (hk : s.back = back ++ [k]) :
    Calls Try.prog 23 #[.pointer (some ⟨a, 0, none⟩)] w fun e w' => e = .returned (.int .i64 k) ∧ ∃ vb, IsAr w' B a (s.taken k vb back) ∧ KeepsBut (s.own a) w w' ∧ vb.ownBlock = s.vb.ownBlock := by
  have HA : Hid (IsAr w B a s) := h
  obtain ⟨x, hx, hg⟩ := (h.mem k).1 (by rw [hk]; simp)
  have HX : Hid (s.bl[k]? = some x) := hx
  have HK : Hid (s.back = back ++ [k]) := hk
  have hkl : k < s.bl.length := (List.getElem?_eq_some_iff.1 hx).1
  have hbl : s.back.length = back.length + 1 := by rw [hk]; simp
  have c3 := h.cell3
  have hf3 := h.frozen 3
  obtain ⟨hgb, hcb, hvb, hncb, hcmb⟩ : ∃ hb cap, s.vb = .slice (some ⟨hb, 0, none⟩) (back.length + 1) cap ∧ back.length + 1 ≤ cap ∧ cap ≤ maxLen := by
    rcases h.backs.2 with ⟨_, h0⟩ | ⟨gq, cap, cur, hv, _, _, h1, h2, _⟩
    · omega
    · rw [hbl] at hv h1
      exact ⟨gq, cap, hv, h1, h2⟩
  have hown : w.ownsRow B 3 1 (.slice (some ⟨hgb, 0, none⟩) (back.length + 1) hcb) (back.length + 1) ((back.map fun i : Nat => Value.int .i64 (i : Int)) ++ [.int .i64 (k : Int)]) := by
    have := h.backs
    rw [hvb, hbl, hk, List.map_append] at this
    exact this
  have cl : w.cell? ⟨hgb, back.length, none⟩ = some (.int .i64 (k : Int)) := by
    have := hown.cellAt back.length (by omega)
    rw [this]
    simp
  have HV : Hid (s.vb = .slice (some ⟨hgb, 0, none⟩) (back.length + 1) hcb) := hvb
  have M1 : Hid (ArMem (w.setCell ⟨a, 3, none⟩ (.slice (some ⟨hgb, 0, none⟩) back.length hcb)) B a { s with vb := .slice (some ⟨hgb, 0, none⟩) back.length hcb, back := back }) :=
    h.toMem.setBack (World.grownBy.refl _ _) (ownsRow_pop (by simp) hown)
  rw [hvb] at c3
  unfold maxLen at hcmb
  have ssl := fun W => slice_to_g (P := Try.prog) 27 (by kernel_rfl) 1 (fun W => by
    obtain ⟨i0, hi, hz0, hz1, hz2⟩ := info_parts Try.infoInt
    have he : Try.prog.elem 27 = 3 := by kernel_rfl
    rw [he]
    simp [sizeOf, typeInfo, hi, hz1]) W (some ⟨hgb, 0, none⟩) (back.length + 1) hcb back.length (by omega)
  have K1 : Hid (KeepsBut (s.own a) w (w.setCell ⟨a, 3, none⟩ (.slice (some ⟨hgb, 0, none⟩) back.length hcb))) := KeepsBut.setCell _ _ _ _ (.inl rfl)
  clear h hx hg hvb hown hk hbl
  generalize hm : back.length = m at *
  go_enter Try.func23, Try.ntmps23
  go_upto_region 4 with fail
  clear c3 hf3 cl ssl hcmb hncb
  generalize w.setCell ⟨a, 3, none⟩ (.slice (some ⟨hgb, 0, none⟩) m hcb) = w1 at *
  have c2 := M1.out.cell2
  obtain ⟨g, cap', hv', hnc', hcm', c4, c5, hfr⟩ := M1.out.slot (i := k) (x := x) HX.out
  have hv2 : s.vm = .slice (some ⟨g, 0, none⟩) s.bl.length cap' := hv'
  have c2a : w1.cell? ⟨a, 2, none⟩ = some (.slice (some ⟨g, 0, none⟩) s.bl.length cap') := by rw [← hv2]; exact c2
  have c4a : w1.cell? ⟨g, k * 2, none⟩ = some (.slice (some ⟨x.q, 0, none⟩) s.size s.size) := c4
  obtain ⟨-, b1, b2⟩ := M1.out.blk k x HX.out
  have B1 : Hid (Blk w1 x.q [] x.b [] ∧ x.b.length = s.size) := ⟨b1, b2⟩
  have HV2 : Hid (s.vm = .slice (some ⟨g, 0, none⟩) s.bl.length cap') := hv2
  have hnc2 : s.bl.length ≤ cap' := hnc'
  clear c2 c4 c5 hfr hv' hv2 b1 b2 hcm' hnc'
  go_upto_region 5 with (refine wpList_clearB _ rfl (.tmp 34) rfl x.q s.size s.size x.b rfl B1.out.1 B1.out.2.symm ?_; intro w2 hb2 hg2 hs2)
  have M2 : Hid (ArMem w2 B a (({ s with vb := .slice (some ⟨hgb, 0, none⟩) m hcb, back := back } : Ar).setB k (zeros s.size))) := M1.out.setB HX.out hg2 hb2 (zeros_length _)
  have K2 : Hid (KeepsBut (s.own a) w w2) := K1.out.trans (KeepsBut.ofGrown hg2 (.inr (.inr (.inr ⟨x, List.mem_of_getElem? HX.out, rfl⟩))))
  clear hb2 hg2 hs2 c2a c4a B1 M1 K1
  have c2 := M2.out.cell2
  obtain ⟨g', cap'', hv', hnc', hcm', c4, c5, hfr⟩ := M2.out.slot (i := k) (x := { x with b := zeros s.size }) (by rw [setB_at, if_pos rfl]; show (s.bl[k]?).map _ = _; rw [HX.out]; rfl)
  have e1 : s.vm = .slice (some ⟨g', 0, none⟩) (({ s with vb := .slice (some ⟨hgb, 0, none⟩) m hcb, back := back } : Ar).setB k (zeros s.size)).bl.length cap'' := hv'
  rw [HV2.out] at e1
  injection e1 with e2 e3 e4
  injection e2 with e2
  injection e2 with e2
  subst e2
  have c2a : w2.cell? ⟨a, 2, none⟩ = some (.slice (some ⟨g, 0, none⟩) s.bl.length cap') := by rw [← HV2.out]; exact c2
  have hf5 := hfr (k * 2 + 1)
  have c5a : w2.cell? ⟨g, k * 2 + 1, none⟩ = some (.bool x.g) := c5
  have M3 : Hid (ArMem (w2.setCell ⟨g, k * 2 + 1, none⟩ (.bool true)) B a ((({ s with vb := .slice (some ⟨hgb, 0, none⟩) m hcb, back := back } : Ar).setB k (zeros s.size)).setG k true)) := M2.out.setG (by simp [Ar.setB]; exact hkl) hv' true
  have K3 : Hid (KeepsBut (s.own a) w (w2.setCell ⟨g, k * 2 + 1, none⟩ (.bool true))) := K2.out.trans (KeepsBut.setCell _ _ _ _ (.inr (.inl (by rw [HV2.out]; rfl))))
  clear c2 c4 c5 hfr hv' e3 e4 hnc' hcm' M2 K2
  go_upto_region 6 with fail
  clear c2a hf5 c5a
  generalize w2.setCell ⟨g, k * 2 + 1, none⟩ (.bool true) = w3 at *
  have R : Hid (∃ vb, IsAr w3 B a (s.taken k vb back) ∧ KeepsBut (s.own a) w w3 ∧ vb.ownBlock = s.vb.ownBlock) := by
    obtain ⟨i1, i2⟩ := taken_inv HA.out HK.out (.slice (some ⟨hgb, 0, none⟩) m hcb)
    exact ⟨.slice (some ⟨hgb, 0, none⟩) m hcb, ArMem.toAr (s := s.taken k (.slice (some ⟨hgb, 0, none⟩) m hcb) back) M3.out i1 i2, K3.out, by rw [HV.out]; rfl⟩
  clear M3 K3
  go_wp2
  go_ret
  exact ⟨rfl, R.out⟩

/-- How many are given out. -/
def Ar.live (s : Ar) : Int := (s.bl.length : Int) - (s.back.length : Int)

set_option maxRecDepth 100000 in
set_option maxHeartbeats 1000000 in
/-- Alloc where there is no room: nothing. -/
theorem alloc_no (B a : Nat) (s : Ar) (w : World) (h : IsAr w B a s) (hl : s.most ≤ s.live) :
    Calls Try.prog 7 #[.pointer (some ⟨a, 0, none⟩)] w fun e w' => e = .returned (.tuple #[.int .i64 0, .bool false]) ∧ Below w.heap.size w w' := by
  have HA : Hid (IsAr w B a s) := h
  have c1 := h.cell1
  have hl' : s.most ≤ (s.bl.length : Int) - (s.back.length : Int) := hl
  clear h hl
  go_enter Try.func7, Try.ntmps7
  go_wp2
  go_quiet ((go_at_call 14; exact Calls.quiet_of (alive_any B a s _ (HA.out.below (below_drewN (Below.refl _ _) _)))))
  go_wp2
  go_ret2
  exact ⟨rfl, below_drewN (Below.refl _ _) _⟩

end Go.Proofs.Ytofbklabapmdcaa
