/-
  batch: leave, next, found.
-/
import Derived.Test.YtkckbeekehecnaaBA
namespace Go.Proofs.Ytkckbeekehecnaa
open Go.RowKit
set_option linter.unusedVariables false
set_option maxRecDepth 100000

theorem own_shape {B n : Nat} {W : World} {v : Value} {l : List Int} (h : OwnZ B W v n l) : ∃ a c, v = .slice a n c := by
  obtain ⟨a, c, h1, -, -⟩ := owned_slice h
  exact ⟨a, c, h1⟩
/-- NEXT: there is none. -/
theorem wnext_none (B p : Nat) (s : SpS) (w : World) (hs : Wt B w p s) (hF : s.FF = []) :
    Calls Try.prog 29 #[.pointer (some ⟨p, 0, none⟩)] w fun e w' => e = .returned (.tuple #[.int .i64 0, .bool false]) ∧ w' = w := by
  obtain ⟨-, -, c4⟩ := hs.cells
  have hf := hs.first
  rw [hF] at hf
  obtain ⟨a, c, e4⟩ := own_shape hf
  rw [e4] at c4
  go_enter Try.func29, Try.ntmps29
  go_wp2
  go_ret2
  exact ⟨rfl, rfl⟩
/-- NEXT: the last one of the list. -/
theorem wnext_some (B p : Nat) (s : SpS) (w : World) (hs : Wt B w p s) (F : List Int) (z : Int) (hF : s.FF = F ++ [z]) :
    Calls Try.prog 29 #[.pointer (some ⟨p, 0, none⟩)] w fun e w' => e = .returned (.tuple #[.int .i64 z, .bool true]) ∧ (∃ v, Wt B w' p { s with fsv := v, FF := F }) ∧ Below B w w' ∧ KeepT w w' := by
  obtain ⟨-, -, c4⟩ := hs.cells
  have hf := hs.first
  rw [hF, List.length_append, List.length_singleton] at hf
  obtain ⟨a, c, e4⟩ := own_shape hf
  have HS : Hid (Wt B w p s) := hs
  have HF : Hid (OwnZ B w (.slice a (F.length + 1) c) (F.length + 1) (F ++ [z])) := by rw [← e4]; exact hf
  have E4 : Hid (s.fsv = .slice a (F.length + 1) c) := e4
  rw [e4] at c4
  have R : Hid (Wt B (w.setCell ⟨p, 2, none⟩ (.slice a F.length c)) p { s with fsv := .slice a F.length c, FF := F }) := by
    refine HS.out.setFirst ?_ (.inl (by rw [E4.out]; cases a <;> rfl))
    have h1 := HF.out
    cases a with
    | none =>
      rcases h1.2 with ⟨-, h0⟩ | ⟨g, cap, cur, hv, -⟩
      · omega
      · cases hv
    | some ad =>
      have h2 : ad = ⟨ad.block, 0, none⟩ := by
        rcases h1.2 with ⟨h0, -⟩ | ⟨g, cap, cur, hv, -⟩
        · cases h0
        · injection hv with hv _ _
          injection hv with hv
          rw [hv]
      rw [h2] at h1 ⊢
      unfold OwnZ at h1 ⊢
      rw [List.map_append] at h1
      exact ownsRow_pop (by simp) h1
  have XB : Hid (Below B w (w.setCell ⟨p, 2, none⟩ (.slice a F.length c))) := (Below.refl B w).setCell HS.out.bp _
  have KT : Hid (KeepT w (w.setCell ⟨p, 2, none⟩ (.slice a F.length c))) := KeepT.setWt HS.out.box 2 _
  obtain ⟨n, hn⟩ : ∃ n, F.length = n := ⟨_, rfl⟩
  have hz : (F ++ [z])[n]? = some z := by rw [← hn]; simp
  obtain ⟨b, off, rfl, ci⟩ := zs_at HF.out.zs (Below.refl _ _) hz
  rw [hn] at HF c4 R XB KT
  obtain ⟨-, h2, h3⟩ := zs_len HF.out.zs
  have sl : ∀ W, (Instr.slice 31 (.slice (some ⟨b, off, none⟩) (n + 1) c) none (some (.int .i64 (n : Int))) none).run Try.prog W = .ok (.slice (some ⟨b, off, none⟩) n c) W := fun W => slice_to_g (P := Try.prog) 31 (by kernel_rfl) 1 (by intro W; kernel_rfl) W (some ⟨b, off, none⟩) (n + 1) c n (by omega)
  have e1 : ((n + 1 : Nat) : Int) - 1 = (n : Int) := by omega
  have h0 : ¬ ((n : Int) < 0) := by omega
  have hfz := HS.out.frozen 2
  clear HS HF E4 hf e4 hF hs hz
  go_enter Try.func29, Try.ntmps29
  go_wp2
  go_ret2
  exact ⟨rfl, ⟨_, R.out⟩, XB.out, KT.out⟩

set_option maxHeartbeats 1000000 in
/-- LEAVE. -/
theorem wleave_any (B p m : Nat) (s : SpS) (e : Nat) (v : Int) (w : World) (hs : Wt B w p s) (hB : B ≤ w.heap.size) (hm : s.m = m) (he : e < m) (hF : s.FF.length ≤ 1000000) :
    Calls Try.prog 47 #[.pointer (some ⟨p, 0, none⟩), .int .i64 (e : Int), .int .i64 v] w fun e' w' => e' = .returned (.tuple #[]) ∧ (∃ u, Wt B w' p { s with h := updN s.h e v, fsv := u, FF := if v = 1 then s.FF ++ [(e : Int)] else s.FF }) ∧ Below B w w' ∧ KeepT w w' := by
  have HS : Hid (Wt B w p s) := hs
  have HFF : Hid (s.FF.length ≤ 1000000) := hF
  have HB0 : Hid (B ≤ w.heap.size) := hB
  obtain ⟨-, c1, -⟩ := hs.cells
  obtain ⟨lb, hlb⟩ : ∃ x, s.lb = x := ⟨_, rfl⟩
  have el : s.lv = .slice (some ⟨lb, 0, none⟩) m m := by rw [← hlb, ← hm]; rfl
  rw [el] at c1
  have ol := hs.left
  rw [el, hm] at ol
  have ce := ol.cell (tab_get s.h he)
  have fe := ol.frozen e
  have LB : Hid (B ≤ lb) := (ol.lt lb rfl).1
  have S1 : Hid (Wt B (w.setCell ⟨lb, e, none⟩ (.int .i64 v)) p { s with h := updN s.h e v }) := by rw [← hlb]; exact hs.setLeft (by rw [hm]; exact he) v
  have X1 : Hid (Below B w (w.setCell ⟨lb, e, none⟩ (.int .i64 v))) := (Below.refl _ w).setCell LB.out _
  have T1 : Hid (KeepT w (w.setCell ⟨lb, e, none⟩ (.int .i64 v))) := by obtain ⟨cs, hc⟩ := ol.kind (q := lb) rfl; exact KeepT.setInt hc e _
  clear hs hm hF ol el hlb hB
  go_enter Try.func47, Try.ntmps47
  go_upto_region 1 with fail
  obtain ⟨w1, hw1⟩ : ∃ x, w.setCell ⟨lb, e, none⟩ (.int .i64 v) = x := ⟨_, rfl⟩
  rw [hw1] at S1 X1 T1 ⊢
  clear hw1 c1 ce fe
  by_cases hv1 : v = 1
  · subst hv1
    have SB : Hid (B ≤ w1.heap.size) := Nat.le_trans HB0.out X1.out.size
    obtain ⟨-, -, c4⟩ := S1.out.cells
    have f4 := S1.out.frozen 2
    have c4' : w1.cell? ⟨p, 2, none⟩ = some s.fsv := c4
    have OA : Hid (OwnZ B (w1.alloc (.cells #[.int .i64 (e : Int)] 3)) s.fsv s.FF.length s.FF) := S1.out.first.alloc _
    have SA : Hid (B ≤ (w1.alloc (.cells #[.int .i64 (e : Int)] 3)).heap.size) := Nat.le_trans SB.out (below_alloc _ _).size
    have S3 : Hid (Wt B (w1.alloc (.cells #[.int .i64 (e : Int)] 3)) p { s with h := updN s.h e 1 }) := S1.out.below (below_alloc _ _)
    have hFn : s.FF.length + 1 ≤ 1000000000 := by have := HFF.out; omega
    clear c4 S1
    go_wp2_with (at_builtin; refine wpList_addZ _ rfl (.tmp 19) (.tmp 21) rfl B s.fsv s.FF.length s.FF rfl OA.out _ 1 [(e : Int)] rfl (zs_one _ _ _) hFn SA.out ?_; intro a4 k4 w4 ho4 hg4 hat4 hnc4 hcm4; have kp4 : w4.cell? ⟨p, 2, none⟩ = some s.fsv ∧ w4.frozen? ⟨p, 2, none⟩ = false := (by
        have hblk : w4.heap[p]? = (w1.alloc (.cells #[.int .i64 (e : Int)] 3)).heap[p]? := hg4.block p S3.out.lt (fun e1 => by
          obtain ⟨cs, hc⟩ := S3.out.first.kind e1.symm
          exact heap_ne hc S3.out.box (by decide) rfl)
        exact ⟨(World.cell?_of_block (w := w1.alloc (.cells #[.int .i64 (e : Int)] 3)) hblk).trans S3.out.cells.2.2, (World.frozen?_of_block (w := w1.alloc (.cells #[.int .i64 (e : Int)] 3)) hblk).trans (S3.out.frozen 2)⟩); obtain ⟨k4a, k4b⟩ := kp4)
    have hF4 : OwnZ B w4 (.slice a4 (s.FF.length + 1) k4) (s.FF ++ [(e : Int)]).length (s.FF ++ [(e : Int)]) := by
      rw [List.length_append, List.length_singleton]
      exact ho4
    have R : Hid (Wt B (w4.setCell ⟨p, 2, none⟩ (.slice a4 (s.FF.length + 1) k4)) p { s with h := updN s.h e 1, fsv := .slice a4 (s.FF.length + 1) k4, FF := s.FF ++ [(e : Int)] }) := S3.out.grownF hg4 hF4 hat4
    have XE : Hid (Below B w (w4.setCell ⟨p, 2, none⟩ (.slice a4 (s.FF.length + 1) k4))) := ((X1.out.alloc SB.out _).grown hg4 SA.out (fun k hk => (OA.out.lt k hk).1)).setCell HS.out.bp _
    have TE : Hid (KeepT w (w4.setCell ⟨p, 2, none⟩ (.slice a4 (s.FF.length + 1) k4))) := by
      have t2 : KeepT w1 (w1.alloc (.cells #[.int .i64 (e : Int)] 3)) := KeepT.ofBelow (below_alloc _ _)
      have t3 : KeepT (w1.alloc (.cells #[.int .i64 (e : Int)] 3)) w4 := KeepT.ofGrown hg4 (fun q hq => OA.out.kind hq)
      have hb4 : w4.heap[p]? = _ := (hg4.block p S3.out.lt (fun e1 => by
          obtain ⟨cs, hc⟩ := S3.out.first.kind e1.symm
          exact heap_ne hc S3.out.box (by decide) rfl)).trans S3.out.box
      exact ((T1.out.trans t2).trans t3).trans (KeepT.setWt hb4 2 _)
    first | go_ret | go_end0
    exact ⟨rfl, ⟨_, R.out⟩, XE.out, TE.out⟩
  · have hv1' : (v == 1) = false := by simpa using hv1
    go_wp2
    first | go_ret | go_end0
    exact ⟨rfl, ⟨s.fsv, by first | exact S1.out | (rw [if_neg hv1]; exact S1.out)⟩, X1.out, T1.out⟩

end Go.Proofs.Ytkckbeekehecnaa
