/-
  The document's list with a block left out: Drop.
-/
import Derived.Test.YtofbklabapmdcaaDoA
namespace Go.Proofs.Ytofbklabapmdcaa
open Go.RowKit
set_option linter.unusedVariables false

theorem Try.infoRBlock : (Try.prog.info? 37).map (fun i => (i.zero, i.size, i.bytes)) = some (some (.agg #[.int .i64 0, .slice none 0 0]), 2, 32) := by kernel_rfl

theorem owns_none (w : World) (e : TypeId) (size : Nat) (B : Nat) (hB : B ≤ w.heap.size) : (w.alloc (.cells #[] e)).ownsRow B e size (.slice (some ⟨w.heap.size, 0, none⟩) 0 0) 0 [] := by
  refine ⟨by simp, .inr ⟨w.heap.size, 0, #[], rfl, hB, (by show (w.heap.push _)[w.heap.size]? = _; simp), Nat.le_refl _, by simp [maxLen], by simp, by simp⟩⟩

def offN (i : Int) (x : RB) : Bool := !decide ((x.n : Int) = i)

set_option maxHeartbeats 800000 in
set_option maxRecDepth 100000 in
theorem drop_any (size : Nat) (v : Value) (l : List RB) (i : Int) (w : World) (h : RBs w size v l) (hl : l.length ≤ 1000) :
    Calls Try.prog 10 #[v, .int .i64 i] w fun e w' => ∃ v', e = .returned v' ∧ w'.ownsRow w.heap.size 37 2 v' (l.filter (offN i)).length ((l.filter (offN i)).flatMap (rbCells size)) ∧ Below w.heap.size w w' := by
  obtain ⟨i0, hi, hz0, hz1, hz2⟩ := info_parts Try.infoRBlock
  obtain ⟨-, ao, cap, rfl, h2, h3, -, h5⟩ := h
  unfold maxLen at h3
  obtain ⟨n, hn⟩ : ∃ n, l.length = n := ⟨_, rfl⟩
  rw [hn] at h2 h5 hl ⊢
  have Hn : Hid (l.length = n) := hn
  clear hn
  have H5 : Hid (n = 0 ∨ ∃ b off, ao = some ⟨b, off, none⟩ ∧ ∀ j u, (l.flatMap (rbCells size))[j]? = some u → w.cell? ⟨b, off + j, none⟩ = some u) := h5
  clear h5
  have N0 : Hid ((w.alloc (.cells #[] 37)).ownsRow w.heap.size 37 2 (.slice (some ⟨w.heap.size, 0, none⟩) 0 0) 0 []) := owns_none w _ 2 _ (Nat.le_refl _)
  have X0 : Hid (Below w.heap.size w (w.alloc (.cells #[] 37))) := below_alloc _ _
  go_enter Try.func10, Try.ntmps10
  go_wp2
  go_loopw [5, 6] (fun vd c wr => ∃ (k m : Nat) (l' : List RB), k ≤ n ∧ m ≤ k ∧ c = .int .i64 k ∧ l' = (l.take k).filter (offN i) ∧ l'.length = m ∧ wr.ownsRow w.heap.size 37 2 vd m (l'.flatMap (rbCells size)) ∧ Below w.heap.size w wr) (fun _ c _ => n - (intOf c).toNat)
  case atStart => exact ⟨0, 0, [], by omega, by omega, rfl, by simp, rfl, N0.out, X0.out⟩
  case round =>
    obtain ⟨k, m, l', hk, hm, rfl, hl', hlen, hO, hX⟩ := hrel
    have HO : Hid (wr.ownsRow w.heap.size 37 2 u5 m (l'.flatMap (rbCells size))) := hO
    have HX : Hid (Below w.heap.size w wr) := hX
    have HL : Hid (l' = (l.take k).filter (offN i) ∧ l'.length = m) := ⟨hl', hlen⟩
    obtain ⟨au, cu, rfl, hcu, hcum, -⟩ := owned_slice hO
    unfold maxLen at hcum
    clear hO hX hl' hlen
    by_cases hlt : k < n
    · have hkl : k < l.length := by rw [Hn.out]; exact hlt
      obtain ⟨b, off, hao, hc⟩ : ∃ b off, ao = some ⟨b, off, none⟩ ∧ ∀ j u, (l.flatMap (rbCells size))[j]? = some u → w.cell? ⟨b, off + j, none⟩ = some u := by
        rcases H5.out with h0 | h0
        · omega
        · exact h0
      subst hao
      obtain ⟨y, hy⟩ : ∃ y, l[k]? = some y := ⟨_, List.getElem?_eq_getElem hkl⟩
      have hck : wr.cell? ⟨b, off + k * 2, none⟩ = some (.int .i64 (y.n : Int)) := by
        have h := hc (k * 2 + 0) _ (by rw [rbs_at size l k y hy 0 (by omega)]; rfl)
        rw [Nat.add_zero] at h
        exact (HX.out.cell (cell_block_lt h)).trans h
      have hck1 : wr.cell? ⟨b, off + k * 2 + 1, none⟩ = some (.slice (some ⟨y.q, 0, none⟩) size size) := by
        have h := hc (k * 2 + 1) _ (by rw [rbs_at size l k y hy 1 (by omega)]; rfl)
        rw [← Nat.add_assoc] at h
        exact (HX.out.cell (cell_block_lt h)).trans h
      have HY : Hid (l.take (k + 1) = l.take k ++ [y]) := by
        unfold Hid
        rw [List.take_add_one, hy]
        rfl
      clear hc hy
      by_cases hx : (y.n : Int) = i
      · have HF : Hid ((l.take (k + 1)).filter (offN i) = (l.take k).filter (offN i)) := by
          unfold Hid
          rw [HY.out, List.filter_append]
          simp [offN, hx]
        rw [hx] at hck
        clear hx
        go_wp2
        go_roundw
        case rel => exact ⟨k + 1, m, l', by omega, by omega, by go_num, by rw [HF.out]; exact HL.out.1, HL.out.2, HO.out, HX.out⟩
        case measure => simp [intOf]; omega
      · have HF : Hid ((l.take (k + 1)).filter (offN i) = (l.take k).filter (offN i) ++ [y]) := by
          unfold Hid
          rw [HY.out, List.filter_append]
          simp [offN, hx]
        have hx' : ((y.n : Int) == i) = false := by simpa using hx
        obtain ⟨yn, hyn⟩ : ∃ yn : Int, (y.n : Int) = yn := ⟨_, rfl⟩
        have HN : Hid ((y.n : Int) = yn) := hyn
        rw [hyn] at hck hx'
        clear hx hyn
        have HO1 : Hid ((wr.alloc (.cells #[.int .i64 yn, .slice (some ⟨y.q, 0, none⟩) size size] 37)).ownsRow w.heap.size 37 2 (.slice au m cu) m (l'.flatMap (rbCells size))) := HO.out.alloc _
        go_wp2_with (at_builtin; refine wpList_app _ rfl (.tmp 21) (.tmp 26) 26 rfl w.heap.size 37 i0 _ 2 32 Try.underlying26 hi hz0 hz1 hz2 rfl (by decide) _ _ _ rfl HO1.out _ 1 _ rfl (lit2 _ _ _ _) (by simp [Value.oneCell']) (by unfold maxLen; omega) (by omega) (by have := HX.out.size; simp; omega) ?_; intro a7 c7 w7 hO7 hg7 hat7 hne7 hnc7 hcm7)
        have hg7' : (wr.alloc (.cells #[.int .i64 yn, .slice (some ⟨y.q, 0, none⟩) size size] 37)).grownBy w7 (Value.slice au m cu).ownBlock := hg7
        have hb7 : Below w.heap.size w w7 := (HX.out.trans ((below_alloc _ _).mono HX.out.size)).grown hg7' (by have := HX.out.size; simp; omega) (fun q hq => (HO1.out.lt q hq).1)
        refine ⟨⟨k + 1, m + 1, l' ++ [y], by omega, by omega, rfl, by rw [HF.out, HL.out.1], by simp [HL.out.2], ?_, hb7⟩, by simp only [intOf]; omega⟩
        have e : (l' ++ [y]).flatMap (rbCells size) = l'.flatMap (rbCells size) ++ [.int .i64 yn, .slice (some ⟨y.q, 0, none⟩) size size] := by
          rw [List.flatMap_append]
          simp [rbCells, HN.out]
        rw [e]
        exact hO7
    · obtain rfl : n = k := by omega
      have HE : Hid (l' = l.filter (offN i)) := by
        unfold Hid
        rw [HL.out.1, List.take_of_length_le (by rw [Hn.out]; exact Nat.le_refl _)]
      go_wp2
      go_ret
      refine ⟨_, rfl, ?_, HX.out⟩
      rw [← HE.out, HL.out.2]
      exact HO.out

end Go.Proofs.Ytofbklabapmdcaa
