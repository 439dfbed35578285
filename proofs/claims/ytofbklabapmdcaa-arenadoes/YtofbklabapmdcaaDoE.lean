/-
  The document's list with a block turned: Put.
-/
import Derived.Test.YtofbklabapmdcaaDoD
namespace Go.Proofs.Ytofbklabapmdcaa
open Go.RowKit
set_option linter.unusedVariables false

set_option maxHeartbeats 400000 in
theorem rput_miss (size : Nat) (v : Value) (l : List RB) (i : Int) (pv : Value) (w : World) (h : RBs w size v l) (hf : findI l i = -1) :
    Calls Try.prog 11 #[v, .int .i64 i, pv] w fun e w' => e = .returned (.tuple #[v, .bool false]) ∧ w' = w := by
  have H : Hid (RBs w size v l) := h
  obtain ⟨-, ao, cap, rfl, h2, h3, -, -⟩ := h
  unfold maxLen at h3
  have HF : Hid (findI l i = -1) := hf
  clear hf
  go_enter Try.func11, Try.ntmps11
  go_wp2_with fail
  refine (find_any size _ l i w H.out).mono ?_
  rintro e w' ⟨rfl, rfl⟩
  rw [HF.out]
  go_wp2
  go_ret2
  exact ⟨rfl, rfl⟩

theorem RBs.cells {w : World} {size : Nat} {ao : Option Addr} {n cap : Nat} {l : List RB} (h : RBs w size (.slice ao n cap) l) {j : Nat} {y : RB} (hj : l[j]? = some y) : ∃ b off, ao = some ⟨b, off, none⟩ ∧ w.cell? ⟨b, off + j * 2, none⟩ = some (.int .i64 (y.n : Int)) ∧ w.cell? ⟨b, off + j * 2 + 1, none⟩ = some (.slice (some ⟨y.q, 0, none⟩) size size) := by
  obtain ⟨_, a', c', hv, _, _, _, h5⟩ := h
  injection hv with e1 e2 e3
  subst e1
  rcases h5 with h0 | ⟨b, off, rfl, hc⟩
  · have := (List.getElem?_eq_some_iff.1 hj).1; omega
  · refine ⟨b, off, rfl, ?_, ?_⟩
    · have h := hc (j * 2 + 0) _ (by rw [rbs_at size l j y hj 0 (by omega)]; rfl)
      simpa using h
    · have h := hc (j * 2 + 1) _ (by rw [rbs_at size l j y hj 1 (by omega)]; rfl)
      rw [← Nat.add_assoc] at h
      exact h

set_option maxHeartbeats 400000 in
theorem rput_bad (size : Nat) (v : Value) (l : List RB) (i : Int) (j : Nat) (y : RB) (r : Nat) (vb : Value) (b : List UInt8) (w : World) (h : RBs w size v l) (hf : findI l i = (j : Int)) (hj : l[j]? = some y) (hr : w.cell? ⟨r, 0, none⟩ = some vb) (hb : Bs w vb b) (hne : b.length ≠ size) (hl : l.length ≤ 1000) :
    Calls Try.prog 11 #[v, .int .i64 i, .slice (some ⟨r, 0, none⟩) 1 1] w fun e w' => e = .returned (.tuple #[v, .bool false]) ∧ w' = w := by
  have H : Hid (RBs w size v l) := h
  obtain ⟨-, ao, cap, rfl, h2, h3, -, -⟩ := h
  unfold maxLen at h3
  obtain ⟨b0, o0, rfl, hc0, hc1⟩ := H.out.cells hj
  have hjn : j < l.length := (List.getElem?_eq_some_iff.1 hj).1
  have HF : Hid (findI l i = (j : Int)) := hf
  have HB : Hid (Bs w vb b ∧ b.length ≠ size ∧ w.cell? ⟨r, 0, none⟩ = some vb) := ⟨hb, hne, hr⟩
  clear hf hj hb hne hr
  obtain ⟨n, hn⟩ : ∃ n, l.length = n := ⟨_, rfl⟩
  rw [hn] at h2 hl hjn ⊢
  have H' : Hid (RBs w size (.slice (some ⟨b0, o0, none⟩) n cap) l) := by have h := H.out; rw [hn] at h; exact h
  clear H hn
  go_enter Try.func11, Try.ntmps11
  go_wp2_with fail
  refine (find_any size _ l i w H'.out).mono ?_
  rintro e w' ⟨rfl, rfl⟩
  rw [HF.out]
  go_wp2_with fail
  refine (rfits_any (size : Int) _ [vb] [b] w' (Sl.one HB.out.2.2) (parts_one HB.out.1)).mono ?_
  rintro e w'' ⟨rfl, rfl⟩
  have hfit : (decide ((0 : Int) ≤ (size : Int)) && fitB (size : Int).toNat [b]) = false := by
    rw [Int.toNat_natCast, fit_one_no HB.out.2.1]
    simp
  rw [hfit]
  go_wp2
  go_ret2
  exact ⟨rfl, rfl⟩

set_option maxHeartbeats 4000000 in
set_option maxRecDepth 100000 in
theorem rput_yes (size : Nat) (v : Value) (l : List RB) (i : Int) (j : Nat) (y : RB) (r : Nat) (vb : Value) (b : List UInt8) (w : World) (h : RBs w size v l) (hf : findI l i = (j : Int)) (hj : l[j]? = some y) (hyi : (y.n : Int) = i) (hyq : Blk w y.q [] y.b []) (hyl : y.b.length = size) (hr : w.cell? ⟨r, 0, none⟩ = some vb) (hb : Bs w vb b) (hbl : b.length = size) (hl : l.length ≤ 1000) (hs : size ≤ 1000) :
    Calls Try.prog 11 #[v, .int .i64 i, .slice (some ⟨r, 0, none⟩) 1 1] w fun e w' => ∃ v' q, e = .returned (.tuple #[v', .bool true]) ∧ w'.ownsRow w.heap.size 37 2 v' l.length ((l.set j ⟨y.n, q, xorL y.b b⟩).flatMap (rbCells size)) ∧ w.heap.size ≤ q ∧ Blk w' q [] (xorL y.b b) [] ∧ Below w.heap.size w w' := by
  obtain ⟨i0, hi, hz0, hz1, hz2⟩ := info_parts Try.infoRBlock
  have H : Hid (RBs w size v l) := h
  obtain ⟨-, ao, cap, rfl, h2, h3, -, -⟩ := h
  unfold maxLen at h3
  obtain ⟨b0, o0, rfl, hc0, hc1⟩ := H.out.cells hj
  have hjn : j < l.length := (List.getElem?_eq_some_iff.1 hj).1
  have HF : Hid (findI l i = (j : Int)) := hf
  have HI : Hid ((y.n : Int) = i) := hyi
  have HB : Hid (Bs w vb b ∧ b.length = size ∧ w.cell? ⟨r, 0, none⟩ = some vb) := ⟨hb, hbl, hr⟩
  have HY : Hid (Blk w y.q [] y.b [] ∧ y.b.length = size) := ⟨hyq, hyl⟩
  have HX : Hid (xorAll (zeros size) [y.b, b] = xorL y.b b ∧ (xorL y.b b).length = size) := ⟨by rw [xorAll_first hyl]; rfl, by rw [xorL_length (by rw [hyl, hbl]), hyl]⟩
  clear hf hyi hb hbl hr hyq hyl hj
  obtain ⟨n, hn⟩ : ∃ n, l.length = n := ⟨_, rfl⟩
  rw [hn] at h2 hl hjn ⊢
  have H' : Hid (RBs w size (.slice (some ⟨b0, o0, none⟩) n cap) l) := by have h := H.out; rw [hn] at h; exact h
  have Hn : Hid (l.length = n) := hn
  clear H hn
  have SR : Hid (Sl 2 (w.alloc (.cells #[] 37)) (.slice (some ⟨b0, o0, none⟩) n cap) n (l.flatMap (rbCells size))) := by
    have h := Sl.below H'.out (below_alloc w (.cells #[] 37))
    rw [Hn.out] at h
    exact h
  have N0 : Hid ((w.alloc (.cells #[] 37)).ownsRow w.heap.size 37 2 (.slice (some ⟨w.heap.size, 0, none⟩) 0 0) 0 []) := owns_none w _ 2 _ (Nat.le_refl _)
  have O1 : Hid (∀ u ∈ l.flatMap (rbCells size), u.oneCell' = true) := by
    intro u hu
    obtain ⟨x, _, hx⟩ := List.mem_flatMap.1 hu
    simp [rbCells] at hx
    rcases hx with rfl | rfl <;> rfl
  go_enter Try.func11, Try.ntmps11
  go_wp2_with fail
  refine (find_any size _ l i w H'.out).mono ?_
  rintro e w' ⟨rfl, hw'⟩
  subst hw'
  rw [HF.out]
  go_wp2_with fail
  refine (rfits_any (size : Int) _ [vb] [b] w' (Sl.one HB.out.2.2) (parts_one HB.out.1)).mono ?_
  rintro e w'' ⟨rfl, hw''⟩
  subst hw''
  have hfit : (decide ((0 : Int) ≤ (size : Int)) && fitB (size : Int).toNat [b]) = true := by
    rw [Int.toNat_natCast, fit_one HB.out.2.1]
    simp
  rw [hfit]
  clear hfit
  go_upto_region 5 with (at_builtin; refine wpList_app _ rfl (.tmp 27) (.tmp 28) 26 rfl w''.heap.size 37 i0 _ 2 32 Try.underlying26 hi hz0 hz1 hz2 rfl (by decide) _ _ _ rfl N0.out _ n _ rfl SR.out O1.out (by unfold maxLen; omega) (by omega) (by simp) ?_; intro a7 c7 w7 hO7 hg7 hat7 hne7 hnc7 hcm7)
  have hO : w7.ownsRow w''.heap.size 37 2 (.slice a7 n c7) n (l.flatMap (rbCells size)) := by
    have h := hO7
    simp only [Nat.zero_add, List.nil_append] at h
    exact h
  have hg7' : (w''.alloc (.cells #[] 37)).grownBy w7 (Value.slice (some ⟨w''.heap.size, 0, none⟩) 0 0).ownBlock := hg7
  have hb7 : Below w''.heap.size w'' w7 := (below_alloc _ _).grown hg7' (by simp) (fun q hq => by simp [Value.ownBlock] at hq; omega)
  obtain ⟨gr, ha7⟩ : ∃ g, a7 = some ⟨g, 0, none⟩ := by
    rcases hO.2 with ⟨h0, hn0⟩ | ⟨g, cap, cur, hv, _⟩
    · omega
    · injection hv with e1 _ _
      exact ⟨g, e1⟩
  subst ha7
  simp only [Nat.zero_add] at hnc7
  unfold maxLen at hcm7
  have hgl := hO.lt gr rfl
  have R7 : Hid (w7.ownsRow w''.heap.size 37 2 (.slice (some ⟨gr, 0, none⟩) n c7) n (l.flatMap (rbCells size))) := hO
  have G7 : Hid (w''.heap.size ≤ gr ∧ gr < w7.heap.size) := hgl
  have X7 : Hid (Below w''.heap.size w'' w7) := hb7
  obtain ⟨x, hx⟩ : ∃ x, xorL y.b b = x := ⟨_, rfl⟩
  rw [hx] at HX
  have HQ : Hid (xorL y.b b = x) := hx
  have OLD : Hid (∀ W, KeepsBut (fun k => k = gr) w7 W → ∀ k, k < w''.heap.size → W.heap[k]? = w''.heap[k]?) := fun W hW k hk => (hW.block k (Nat.lt_of_lt_of_le hk X7.out.size) (by have := G7.out.1; show ¬ k = gr; omega)).trans (X7.out.block k hk)
  have CB : Hid (∀ W, KeepsBut (fun k => k = gr) w7 W → W.cell? ⟨b0, o0 + j * 2 + 1, none⟩ = some (.slice (some ⟨y.q, 0, none⟩) size size)) := fun W hW => (World.cell?_of_block (a := ⟨b0, o0 + j * 2 + 1, none⟩) (OLD.out W hW b0 (cell_block_lt hc1))).trans hc1
  have CR : Hid (∀ W, KeepsBut (fun k => k = gr) w7 W → W.cell? ⟨r, 0, none⟩ = some vb) := fun W hW => (World.cell?_of_block (a := ⟨r, 0, none⟩) (OLD.out W hW r (cell_block_lt HB.out.2.2))).trans HB.out.2.2
  have BBx : Hid (∀ W, KeepsBut (fun k => k = gr) w7 W → Below w''.heap.size w'' W) := fun W hW => X7.out.trans (hW.below X7.out.size (fun k hk => by rw [hk]; exact G7.out.1))
  have RC : Hid (∀ W u, KeepsBut (fun k => k = gr) w7 W → IsTwoS (fun k => k = gr) (.slice (some ⟨y.q, 0, none⟩) size size) vb u W → Calls Try.prog 25 #[.int .i64 (size : Int), u] W fun e w' => ∃ v, e = .returned v ∧ IsNewS (fun k => k = gr) w''.heap.size size x v w' ∧ Below W.heap.size W w') := by
    intro W u hW hu
    have hbw := BBx.out W hW
    refine (rsum_any size u [.slice (some ⟨y.q, 0, none⟩) size size, vb] [y.b, b] W (by omega) hu.sl (parts_two ((HY.out.1.below hbw).bs0 size size HY.out.2.symm (Nat.le_refl _) (by unfold maxLen; omega)) (HB.out.1.below hbw)) (by simp [fitB, HY.out.2, HB.out.2.1])).mono ?_
    rintro e w' ⟨rfl, h1, h2⟩
    rw [HX.out.1] at h1
    exact ⟨_, rfl, ⟨_, rfl, hbw.size, by have := G7.out.2; have := hW.size; show ¬ W.heap.size = gr; omega, h1⟩, h2⟩
  have hjI : (j : Int) < (n : Int) := by omega
  obtain ⟨B, hB⟩ : ∃ B, w''.heap.size = B := ⟨_, rfl⟩
  rw [hB] at RC R7 G7
  have HBB : Hid (w''.heap.size = B) := hB
  clear hO7 hg7 hat7 hne7 hO hg7' hb7 hgl hx hc0 hc1 SR N0 O1 hB
  refine wp_region_any (by kernel_rfl) ?_
  obtain ⟨gs, hgs⟩ : ∃ gs : List (Value → World → Prop), gs = [IsV (Value.slice (some { block := gr, off := 0 }) n c7), IsV (Value.int IntKind.i64 ↑j), IsV (Value.int IntKind.i64 i), IsV (Value.slice (some { block := b0, off := o0 }) n cap), IsV (Value.int IntKind.i64 ↑j), IsV (.pointer (some ⟨b0, o0 + j * 2, none⟩)), IsV (.pointer (some ⟨b0, o0 + j * 2 + 1, none⟩)), IsV (.slice (some ⟨y.q, 0, none⟩) size size), IsV (.int .i64 (size : Int)), IsV (Value.slice (some { block := b0, off := o0 }) n cap), IsV (Value.int IntKind.i64 ↑j), IsV (.pointer (some ⟨b0, o0 + j * 2, none⟩)), IsV (.pointer (some ⟨b0, o0 + j * 2 + 1, none⟩)), IsV (.slice (some ⟨y.q, 0, none⟩) size size), IsOneS (fun k => k = gr) (.slice (some ⟨y.q, 0, none⟩) size size), IsV (Value.slice (some { block := r, off := 0 }) 1 1), IsTwoS (fun k => k = gr) (.slice (some ⟨y.q, 0, none⟩) size size) vb, IsNewS (fun k => k = gr) B size x, IsAggS (fun k => k = gr) B size i x, IsV (.pointer (some ⟨gr, j * 2, none⟩)), IsV (undef)] := ⟨_, rfl⟩
  have g0 : Hid (gs[0]? = some (IsV (Value.slice (some { block := gr, off := 0 }) n c7))) := by unfold Hid; rw [hgs]; rfl
  have g1 : Hid (gs[1]? = some (IsV (Value.int IntKind.i64 ↑j))) := by unfold Hid; rw [hgs]; rfl
  have g2 : Hid (gs[2]? = some (IsV (Value.int IntKind.i64 i))) := by unfold Hid; rw [hgs]; rfl
  have g3 : Hid (gs[3]? = some (IsV (Value.slice (some { block := b0, off := o0 }) n cap))) := by unfold Hid; rw [hgs]; rfl
  have g4 : Hid (gs[4]? = some (IsV (Value.int IntKind.i64 ↑j))) := by unfold Hid; rw [hgs]; rfl
  have g5 : Hid (gs[5]? = some (IsV (.pointer (some ⟨b0, o0 + j * 2, none⟩)))) := by unfold Hid; rw [hgs]; rfl
  have g6 : Hid (gs[6]? = some (IsV (.pointer (some ⟨b0, o0 + j * 2 + 1, none⟩)))) := by unfold Hid; rw [hgs]; rfl
  have g7 : Hid (gs[7]? = some (IsV (.slice (some ⟨y.q, 0, none⟩) size size))) := by unfold Hid; rw [hgs]; rfl
  have g8 : Hid (gs[8]? = some (IsV (.int .i64 (size : Int)))) := by unfold Hid; rw [hgs]; rfl
  have g9 : Hid (gs[9]? = some (IsV (Value.slice (some { block := b0, off := o0 }) n cap))) := by unfold Hid; rw [hgs]; rfl
  have g10 : Hid (gs[10]? = some (IsV (Value.int IntKind.i64 ↑j))) := by unfold Hid; rw [hgs]; rfl
  have g11 : Hid (gs[11]? = some (IsV (.pointer (some ⟨b0, o0 + j * 2, none⟩)))) := by unfold Hid; rw [hgs]; rfl
  have g12 : Hid (gs[12]? = some (IsV (.pointer (some ⟨b0, o0 + j * 2 + 1, none⟩)))) := by unfold Hid; rw [hgs]; rfl
  have g13 : Hid (gs[13]? = some (IsV (.slice (some ⟨y.q, 0, none⟩) size size))) := by unfold Hid; rw [hgs]; rfl
  have g14 : Hid (gs[14]? = some (IsOneS (fun k => k = gr) (.slice (some ⟨y.q, 0, none⟩) size size))) := by unfold Hid; rw [hgs]; rfl
  have g15 : Hid (gs[15]? = some (IsV (Value.slice (some { block := r, off := 0 }) 1 1))) := by unfold Hid; rw [hgs]; rfl
  have g16 : Hid (gs[16]? = some (IsTwoS (fun k => k = gr) (.slice (some ⟨y.q, 0, none⟩) size size) vb)) := by unfold Hid; rw [hgs]; rfl
  have g17 : Hid (gs[17]? = some (IsNewS (fun k => k = gr) B size x)) := by unfold Hid; rw [hgs]; rfl
  have g18 : Hid (gs[18]? = some (IsAggS (fun k => k = gr) B size i x)) := by unfold Hid; rw [hgs]; rfl
  have g19 : Hid (gs[19]? = some (IsV (.pointer (some ⟨gr, j * 2, none⟩)))) := by unfold Hid; rw [hgs]; rfl
  have g20 : Hid (gs[20]? = some (IsV (undef))) := by unfold Hid; rw [hgs]; rfl
  have gk : Hid (∀ p ∈ gs, StaysS (fun k => k = gr) p) := by
    unfold Hid
    rw [hgs]
    simp only [List.forall_mem_cons]
    exact ⟨staysS_v _ _, staysS_v _ _, staysS_v _ _, staysS_v _ _, staysS_v _ _, staysS_v _ _, staysS_v _ _, staysS_v _ _, staysS_v _ _, staysS_v _ _, staysS_v _ _, staysS_v _ _, staysS_v _ _, staysS_v _ _, staysS_ones _ _, staysS_v _ _, staysS_two _ _ _, staysS_new _ _ _ _, staysS_agg _ _ _ _ _, staysS_v _ _, staysS_v _ _, by simp⟩
  clear hgs
  obtain ⟨phs, hphs⟩ : ∃ phs : List (World → Prop), phs = [fun W => W.ownsRow B 37 2 (.slice (some ⟨gr, 0, none⟩) n c7) n (l.flatMap (rbCells size)), fun W => ∃ q, W.ownsRow B 37 2 (.slice (some ⟨gr, 0, none⟩) n c7) n ((l.set j ⟨y.n, q, x⟩).flatMap (rbCells size)) ∧ B ≤ q ∧ Blk W q [] x []] := ⟨_, rfl⟩
  have k0 : Hid (phs[0]? = some (fun W => W.ownsRow B 37 2 (.slice (some ⟨gr, 0, none⟩) n c7) n (l.flatMap (rbCells size)))) := by unfold Hid; rw [hphs]; rfl
  have k1 : Hid (phs[1]? = some (fun W => ∃ q, W.ownsRow B 37 2 (.slice (some ⟨gr, 0, none⟩) n c7) n ((l.set j ⟨y.n, q, x⟩).flatMap (rbCells size)) ∧ B ≤ q ∧ Blk W q [] x [])) := by unfold Hid; rw [hphs]; rfl
  have kk : Hid (∀ p ∈ phs, ∀ W W', Below W.heap.size W W' → p W → p W') := by
    unfold Hid
    rw [hphs]
    simp only [List.forall_mem_cons]
    exact ⟨fun W W' hb h => owns_kept h (fun q hq => hb.block q (h.lt q hq).2), fun W W' hb ⟨q, h, h2, h3⟩ => ⟨q, owns_kept h (fun q hq => hb.block q (h.lt q hq).2), h2, h3.below hb⟩, by simp⟩
  clear hphs
  refine wpAny_inv3 (fun listed ac W => ∃ xv : Nat → Value, ac = ⟨#[Value.slice (some { block := b0, off := o0 }) n cap, Value.int IntKind.i64 i, Value.slice (some { block := r, off := 0 }) 1 1, undef, undef, undef, Value.slice none 0 0, Value.bool false, Value.int IntKind.i64 ↑j, Value.slice (some { block := gr, off := 0 }) n c7, Value.slice (some { block := b0, off := o0 }) n cap, Value.int IntKind.i64 i, Value.int IntKind.i64 ↑j, Value.int IntKind.i64 ↑j, Value.bool (decide (↑j < (0 : Int))), Value.bool (decide (↑j < (0 : Int))), Value.slice (some { block := b0, off := o0 }) n cap, Value.int IntKind.i64 ↑j, Value.pointer (some { block := b0, off := o0 + j * 2 }), Value.pointer (some { block := b0, off := o0 + j * 2 + 1 }), Value.slice (some { block := y.q, off := 0 }) size size, Value.int IntKind.i64 ↑size, Value.slice (some { block := r, off := 0 }) 1 1, Value.bool true, Value.bool false, Value.bool (decide (↑j < (0 : Int))), undef, Value.slice (some { block := w''.heap.size, off := 0 }) 0 0, Value.slice (some { block := b0, off := o0 }) n cap, Value.slice (some { block := gr, off := 0 }) n c7, xv 0, xv 1, xv 2, xv 3, xv 4, xv 5, xv 6, xv 7, xv 8, xv 9, xv 10, xv 11, xv 12, xv 13, xv 14, xv 15, xv 16, xv 17, xv 18, xv 19, undef], []⟩ ∧ KeepsBut (fun k => k = gr) w7 W ∧ Lst gs listed xv W ∧ Ph [20] phs listed W) (by kernel_rfl) ?_ ?_ _ _ _ _ (by kernel_rfl) (of_decide_eq_true (by kernel_rfl)) (Down.start _) ⟨fun j => undef, rfl, KeepsBut.drew _ _, Lst.start _ _ _ _, ?_⟩
  rotate_left 2
  · intro k p hk h1 h2; cases k with | zero => (rw [k0.out] at hk; obtain rfl := Option.some.inj hk; exact owns_kept R7.out (fun q hq => (below0 _).block q (R7.out.lt q hq).2)) | succ k => (obtain ⟨c, hc, hl⟩ := h1 (by omega); exact absurd hl (by rw [Array.getD_eq_getD_getElem?, Array.getElem?_replicate]; split <;> simp))
  · rintro listed ac W ⟨xv, rfl, hb, hG, hH⟩ hD i hi hnl hd
    have hin : i < 21 := hi
    clear hi
    have hcase : i = 0 ∨ i = 1 ∨ i = 2 ∨ i = 3 ∨ i = 4 ∨ i = 5 ∨ i = 6 ∨ i = 7 ∨ i = 8 ∨ i = 9 ∨ i = 10 ∨ i = 11 ∨ i = 12 ∨ i = 13 ∨ i = 14 ∨ i = 15 ∨ i = 16 ∨ i = 17 ∨ i = 18 ∨ i = 19 ∨ i = 20 := by omega
    rcases hcase with rfl | rfl | rfl | rfl | rfl | rfl | rfl | rfl | rfl | rfl | rfl | rfl | rfl | rfl | rfl | rfl | rfl | rfl | rfl | rfl | rfl
    · refine wpOp_step rfl (fun K' hK => ?_)
      have hO : ∀ w', Below W.heap.size W w' → Ph [20] phs (listed.setIfInBounds 0 true) w' := fun w' hb' => hH.other (by simp) (fun p hp => kk.out p hp W w' hb')
      clear hd hin hnl hD hH
      go_simp
      exact hK _ _ ⟨updV xv 0 (Value.slice (some { block := gr, off := 0 }) n c7), by simp [updV], hb, hG.stepS gk.out (KeepsBut.refl _ _) g0.out _ rfl, hO _ (Below.refl _ _)⟩
    · refine wpOp_step rfl (fun K' hK => ?_)
      have hO : ∀ w', Below W.heap.size W w' → Ph [20] phs (listed.setIfInBounds 1 true) w' := fun w' hb' => hH.other (by simp) (fun p hp => kk.out p hp W w' hb')
      clear hd hin hnl hD hH
      go_simp
      exact hK _ _ ⟨updV xv 1 (Value.int IntKind.i64 ↑j), by simp [updV], hb, hG.stepS gk.out (KeepsBut.refl _ _) g1.out _ rfl, hO _ (Below.refl _ _)⟩
    · refine wpOp_step rfl (fun K' hK => ?_)
      have hO : ∀ w', Below W.heap.size W w' → Ph [20] phs (listed.setIfInBounds 2 true) w' := fun w' hb' => hH.other (by simp) (fun p hp => kk.out p hp W w' hb')
      clear hd hin hnl hD hH
      go_simp
      exact hK _ _ ⟨updV xv 2 (Value.int IntKind.i64 i), by simp [updV], hb, hG.stepS gk.out (KeepsBut.refl _ _) g2.out _ rfl, hO _ (Below.refl _ _)⟩
    · refine wpOp_step rfl (fun K' hK => ?_)
      have hO : ∀ w', Below W.heap.size W w' → Ph [20] phs (listed.setIfInBounds 3 true) w' := fun w' hb' => hH.other (by simp) (fun p hp => kk.out p hp W w' hb')
      clear hd hin hnl hD hH
      go_simp
      exact hK _ _ ⟨updV xv 3 (Value.slice (some { block := b0, off := o0 }) n cap), by simp [updV], hb, hG.stepS gk.out (KeepsBut.refl _ _) g3.out _ rfl, hO _ (Below.refl _ _)⟩
    · refine wpOp_step rfl (fun K' hK => ?_)
      have hO : ∀ w', Below W.heap.size W w' → Ph [20] phs (listed.setIfInBounds 4 true) w' := fun w' hb' => hH.other (by simp) (fun p hp => kk.out p hp W w' hb')
      clear hd hin hnl hD hH
      go_simp
      exact hK _ _ ⟨updV xv 4 (Value.int IntKind.i64 ↑j), by simp [updV], hb, hG.stepS gk.out (KeepsBut.refl _ _) g4.out _ rfl, hO _ (Below.refl _ _)⟩
    · refine wpOp_step rfl (fun K' hK => ?_)
      simp [Region.binds] at hd
      have e3 : xv 3 = Value.slice (some { block := b0, off := o0 }) n cap := hG.get g3.out (by simp [hd])
      have e4 : xv 4 = Value.int IntKind.i64 ↑j := hG.get g4.out (by simp [hd])
      have hO : ∀ w', Below W.heap.size W w' → Ph [20] phs (listed.setIfInBounds 5 true) w' := fun w' hb' => hH.other (by simp) (fun p hp => kk.out p hp W w' hb')
      clear hd hin hnl hD hH
      go_simp
      exact hK _ _ ⟨updV xv 5 (.pointer (some ⟨b0, o0 + j * 2, none⟩)), by simp [updV, e3, e4], hb, hG.stepS gk.out (KeepsBut.refl _ _) g5.out _ rfl, hO _ (Below.refl _ _)⟩
    · refine wpOp_step rfl (fun K' hK => ?_)
      simp [Region.binds] at hd
      have e5 : xv 5 = .pointer (some ⟨b0, o0 + j * 2, none⟩) := hG.get g5.out (by simp [hd])
      have hO : ∀ w', Below W.heap.size W w' → Ph [20] phs (listed.setIfInBounds 6 true) w' := fun w' hb' => hH.other (by simp) (fun p hp => kk.out p hp W w' hb')
      clear hd hin hnl hD hH
      go_simp
      exact hK _ _ ⟨updV xv 6 (.pointer (some ⟨b0, o0 + j * 2 + 1, none⟩)), by simp [updV, e5], hb, hG.stepS gk.out (KeepsBut.refl _ _) g6.out _ rfl, hO _ (Below.refl _ _)⟩
    · refine wpOp_step rfl (fun K' hK => ?_)
      simp [Region.binds] at hd
      have e6 : xv 6 = .pointer (some ⟨b0, o0 + j * 2 + 1, none⟩) := hG.get g6.out (by simp [hd])
      have hc := CB.out W hb
      have hO : ∀ w', Below W.heap.size W w' → Ph [20] phs (listed.setIfInBounds 7 true) w' := fun w' hb' => hH.other (by simp) (fun p hp => kk.out p hp W w' hb')
      clear hd hin hnl hD hH
      go_simp
      exact hK _ _ ⟨updV xv 7 (.slice (some ⟨y.q, 0, none⟩) size size), by simp [updV, e6], hb, hG.stepS gk.out (KeepsBut.refl _ _) g7.out _ rfl, hO _ (Below.refl _ _)⟩
    · refine wpOp_step rfl (fun K' hK => ?_)
      simp [Region.binds] at hd
      have e7 : xv 7 = .slice (some ⟨y.q, 0, none⟩) size size := hG.get g7.out (by simp [hd])
      have hO : ∀ w', Below W.heap.size W w' → Ph [20] phs (listed.setIfInBounds 8 true) w' := fun w' hb' => hH.other (by simp) (fun p hp => kk.out p hp W w' hb')
      clear hd hin hnl hD hH
      go_simp
      exact hK _ _ ⟨updV xv 8 (.int .i64 (size : Int)), by simp [updV, e7], hb, hG.stepS gk.out (KeepsBut.refl _ _) g8.out _ rfl, hO _ (Below.refl _ _)⟩
    · refine wpOp_step rfl (fun K' hK => ?_)
      have hO : ∀ w', Below W.heap.size W w' → Ph [20] phs (listed.setIfInBounds 9 true) w' := fun w' hb' => hH.other (by simp) (fun p hp => kk.out p hp W w' hb')
      clear hd hin hnl hD hH
      go_simp
      exact hK _ _ ⟨updV xv 9 (Value.slice (some { block := b0, off := o0 }) n cap), by simp [updV], hb, hG.stepS gk.out (KeepsBut.refl _ _) g9.out _ rfl, hO _ (Below.refl _ _)⟩
    · refine wpOp_step rfl (fun K' hK => ?_)
      have hO : ∀ w', Below W.heap.size W w' → Ph [20] phs (listed.setIfInBounds 10 true) w' := fun w' hb' => hH.other (by simp) (fun p hp => kk.out p hp W w' hb')
      clear hd hin hnl hD hH
      go_simp
      exact hK _ _ ⟨updV xv 10 (Value.int IntKind.i64 ↑j), by simp [updV], hb, hG.stepS gk.out (KeepsBut.refl _ _) g10.out _ rfl, hO _ (Below.refl _ _)⟩
    · refine wpOp_step rfl (fun K' hK => ?_)
      simp [Region.binds] at hd
      have e9 : xv 9 = Value.slice (some { block := b0, off := o0 }) n cap := hG.get g9.out (by simp [hd])
      have e10 : xv 10 = Value.int IntKind.i64 ↑j := hG.get g10.out (by simp [hd])
      have hO : ∀ w', Below W.heap.size W w' → Ph [20] phs (listed.setIfInBounds 11 true) w' := fun w' hb' => hH.other (by simp) (fun p hp => kk.out p hp W w' hb')
      clear hd hin hnl hD hH
      go_simp
      exact hK _ _ ⟨updV xv 11 (.pointer (some ⟨b0, o0 + j * 2, none⟩)), by simp [updV, e9, e10], hb, hG.stepS gk.out (KeepsBut.refl _ _) g11.out _ rfl, hO _ (Below.refl _ _)⟩
    · refine wpOp_step rfl (fun K' hK => ?_)
      simp [Region.binds] at hd
      have e11 : xv 11 = .pointer (some ⟨b0, o0 + j * 2, none⟩) := hG.get g11.out (by simp [hd])
      have hO : ∀ w', Below W.heap.size W w' → Ph [20] phs (listed.setIfInBounds 12 true) w' := fun w' hb' => hH.other (by simp) (fun p hp => kk.out p hp W w' hb')
      clear hd hin hnl hD hH
      go_simp
      exact hK _ _ ⟨updV xv 12 (.pointer (some ⟨b0, o0 + j * 2 + 1, none⟩)), by simp [updV, e11], hb, hG.stepS gk.out (KeepsBut.refl _ _) g12.out _ rfl, hO _ (Below.refl _ _)⟩
    · refine wpOp_step rfl (fun K' hK => ?_)
      simp [Region.binds] at hd
      have e12 : xv 12 = .pointer (some ⟨b0, o0 + j * 2 + 1, none⟩) := hG.get g12.out (by simp [hd])
      have hc := CB.out W hb
      have hO : ∀ w', Below W.heap.size W w' → Ph [20] phs (listed.setIfInBounds 13 true) w' := fun w' hb' => hH.other (by simp) (fun p hp => kk.out p hp W w' hb')
      clear hd hin hnl hD hH
      go_simp
      exact hK _ _ ⟨updV xv 13 (.slice (some ⟨y.q, 0, none⟩) size size), by simp [updV, e12], hb, hG.stepS gk.out (KeepsBut.refl _ _) g13.out _ rfl, hO _ (Below.refl _ _)⟩
    · refine wpOp_step rfl (fun K' hK => ?_)
      simp [Region.binds] at hd
      have e13 : xv 13 = .slice (some ⟨y.q, 0, none⟩) size size := hG.get g13.out (by simp [hd])
      have hO : ∀ w', Below W.heap.size W w' → Ph [20] phs (listed.setIfInBounds 14 true) w' := fun w' hb' => hH.other (by simp) (fun p hp => kk.out p hp W w' hb')
      clear hd hin hnl hD hH
      go_simp
      exact hK _ _ ⟨updV xv 14 (.slice (some ⟨W.heap.size, 0, none⟩) 1 1), by simp [updV, e13], hb.trans (KeepsBut.ofBelow (below_alloc _ _)), hG.stepS gk.out (KeepsBut.ofBelow (below_alloc _ _)) g14.out _ ⟨_, rfl, by have := G7.out.2; have := hb.size; omega, by simp⟩, hO _ (below_alloc _ _)⟩
    · refine wpOp_step rfl (fun K' hK => ?_)
      have hO : ∀ w', Below W.heap.size W w' → Ph [20] phs (listed.setIfInBounds 15 true) w' := fun w' hb' => hH.other (by simp) (fun p hp => kk.out p hp W w' hb')
      clear hd hin hnl hD hH
      go_simp
      exact hK _ _ ⟨updV xv 15 (Value.slice (some { block := r, off := 0 }) 1 1), by simp [updV], hb, hG.stepS gk.out (KeepsBut.refl _ _) g15.out _ rfl, hO _ (Below.refl _ _)⟩
    · refine wpOp_step rfl (fun K' hK => ?_)
      simp [Region.binds] at hd
      have m14 : IsOneS (fun k => k = gr) (.slice (some ⟨y.q, 0, none⟩) size size) (xv 14) W := hG.get g14.out (by simp [hd])
      have e15 : xv 15 = Value.slice (some { block := r, off := 0 }) 1 1 := hG.get g15.out (by simp [hd])
      obtain ⟨p14, e14, hp14, hc14⟩ := m14
      have hcr := CR.out W hb
      have hg7l := G7.out.2
      have hsz := hb.size
      have hO : ∀ w', Below W.heap.size W w' → Ph [20] phs (listed.setIfInBounds 16 true) w' := fun w' hb' => hH.other (by simp) (fun p hp => kk.out p hp W w' hb')
      clear hd hin hnl hD hH
      refine step_app2 W rfl (.tmp 44) (.tmp 45) rfl p14 r _ vb e14 e15 hc14 hcr ?_
      intro cap' w' h1 h2 h3 h4 hb'
      exact hK _ _ ⟨updV xv 16 (.slice (some ⟨W.heap.size, 0, none⟩) 2 cap'), by simp [updV, Act.put], hb.trans (KeepsBut.ofBelow hb'), hG.stepS gk.out (KeepsBut.ofBelow hb') g16.out _ ⟨_, _, rfl, h1, h2, (by show ¬ W.heap.size = gr; omega), h3, h4⟩, hO _ hb'⟩
    · refine wpOp_step rfl (fun K' hK => ?_)
      simp [Region.binds] at hd
      have e8 : xv 8 = .int .i64 (size : Int) := hG.get g8.out (by simp [hd])
      have m16 : IsTwoS (fun k => k = gr) (.slice (some ⟨y.q, 0, none⟩) size size) vb (xv 16) W := hG.get g16.out (by simp [hd])
      have hO : ∀ w', Below W.heap.size W w' → Ph [20] phs (listed.setIfInBounds 17 true) w' := fun w' hb' => hH.other (by simp) (fun p hp => kk.out p hp W w' hb')
      clear hd hin hnl hD hH
      go_simp
      refine (RC.out W _ hb m16).mono ?_
      rintro e w' ⟨v, rfl, hv, hb'⟩
      go_wp2_with fail
      exact ⟨updV xv 17 v, by simp [updV, e8], hb.trans (KeepsBut.ofBelow hb'), hG.stepS gk.out (KeepsBut.ofBelow hb') g17.out v hv, hO _ hb'⟩
    · refine wpOp_step rfl (fun K' hK => ?_)
      simp [Region.binds] at hd
      have e2 : xv 2 = Value.int IntKind.i64 i := hG.get g2.out (by simp [hd])
      have m17 : IsNewS (fun k => k = gr) B size x (xv 17) W := hG.get g17.out (by simp [hd])
      obtain ⟨q, e17, hq1, hq2, hq3⟩ := m17
      have hO : ∀ w', Below W.heap.size W w' → Ph [20] phs (listed.setIfInBounds 18 true) w' := fun w' hb' => hH.other (by simp) (fun p hp => kk.out p hp W w' hb')
      clear hd hin hnl hD hH
      go_simp
      exact hK _ _ ⟨updV xv 18 (.agg #[.int .i64 i, .slice (some ⟨q, 0, none⟩) size size]), by simp [updV, e17, e2], hb, hG.stepS gk.out (KeepsBut.refl _ _) g18.out _ ⟨q, rfl, hq1, hq2, hq3⟩, hO _ (Below.refl _ _)⟩
    · refine wpOp_step rfl (fun K' hK => ?_)
      simp [Region.binds] at hd
      have e0 : xv 0 = Value.slice (some { block := gr, off := 0 }) n c7 := hG.get g0.out (by simp [hd])
      have e1 : xv 1 = Value.int IntKind.i64 ↑j := hG.get g1.out (by simp [hd])
      have hO : ∀ w', Below W.heap.size W w' → Ph [20] phs (listed.setIfInBounds 19 true) w' := fun w' hb' => hH.other (by simp) (fun p hp => kk.out p hp W w' hb')
      clear hd hin hnl hD hH
      go_simp
      exact hK _ _ ⟨updV xv 19 (.pointer (some ⟨gr, j * 2, none⟩)), by simp [updV, e0, e1], hb, hG.stepS gk.out (KeepsBut.refl _ _) g19.out _ rfl, hO _ (Below.refl _ _)⟩
    · refine wpOp_step rfl (fun K' hK => ?_)
      simp [Region.binds] at hd
      have e19 : xv 19 = .pointer (some ⟨gr, j * 2, none⟩) := hG.get g19.out (by simp [hd])
      have m18 : IsAggS (fun k => k = gr) B size i x (xv 18) W := hG.get g18.out (by simp [hd])
      have hph : (fun W => W.ownsRow B 37 2 (.slice (some ⟨gr, 0, none⟩) n c7) n (l.flatMap (rbCells size))) W := hH 0 _ k0.out (fun h => absurd rfl h) (fun c hc => by simp at hc; subst hc; exact getD_false hnl)
      have hW : ∀ w', (fun W => ∃ q, W.ownsRow B 37 2 (.slice (some ⟨gr, 0, none⟩) n c7) n ((l.set j ⟨y.n, q, x⟩).flatMap (rbCells size)) ∧ B ≤ q ∧ Blk W q [] x []) w' → Ph [20] phs (listed.setIfInBounds 20 true) w' := fun w' hp => Ph.write 0 20 rfl hnl (by intro j h; (rcases j with _ | _ | _ | j) <;> simp at h ⊢) (by intro j c' hj h; (rcases j with _ | _ | _ | j) <;> simp at h hj) (by intro j c' hj h; (rcases j with _ | _ | _ | j) <;> simp at h hj) (fun p hp' => by rw [k1.out] at hp'; obtain rfl := Option.some.inj hp'; exact hp)
      obtain ⟨q, e18, hq1, hq2, hq3⟩ := m18
      obtain ⟨z0, hy0⟩ : ∃ z, (l.flatMap (rbCells size))[j * 2]? = some z := ⟨_, List.getElem?_eq_getElem (by rw [length_rbs, Hn.out]; omega)⟩
      obtain ⟨z1, hy1⟩ : ∃ z, (l.flatMap (rbCells size))[j * 2 + 1]? = some z := ⟨_, List.getElem?_eq_getElem (by rw [length_rbs, Hn.out]; omega)⟩
      obtain ⟨c0, f0⟩ := row_at hph hy0
      obtain ⟨c1, f1⟩ := row_at hph hy1
      clear hy0 hy1
      have HPH : Hid (W.ownsRow B 37 2 (.slice (some ⟨gr, 0, none⟩) n c7) n (l.flatMap (rbCells size))) := hph
      clear hph
      clear hd hin hnl hD hH
      go_simp
      have hk2 : KeepsBut (fun k => k = gr) W ((W.setCell ⟨gr, j * 2, none⟩ (.int .i64 i)).setCell ⟨gr, j * 2 + 1, none⟩ (.slice (some ⟨q, 0, none⟩) size size)) := (KeepsBut.setCell (S := fun k => k = gr) W gr (j * 2) _ rfl).trans (KeepsBut.setCell (S := fun k => k = gr) _ gr (j * 2 + 1) _ rfl)
      have hrow := row_set (row_set HPH.out (j * 2) (.int .i64 i)) (j * 2 + 1) (.slice (some ⟨q, 0, none⟩) size size)
      have eset := rbs_set size l j ⟨y.n, q, x⟩
      simp only [HI.out] at eset
      rw [← eset] at hrow
      exact hK _ _ ⟨updV xv 20 undef, by simp [updV, e18, e19], hb.trans hk2, hG.stepS gk.out hk2 g20.out _ rfl, hW _ ⟨q, hrow, hq1, hq3.kept (hk2.block q hq3.lt hq2)⟩⟩
  · rintro listed ac W ⟨xv, rfl, hb, hG, hH⟩ hall
    have XW : Hid (KeepsBut (fun k => k = gr) w7 W) := hb
    have HW : Hid ((fun W => ∃ q, W.ownsRow B 37 2 (.slice (some ⟨gr, 0, none⟩) n c7) n ((l.set j ⟨y.n, q, x⟩).flatMap (rbCells size)) ∧ B ≤ q ∧ Blk W q [] x []) W) := hH 1 _ k1.out (fun _ => ⟨20, rfl, hall 20 (by decide)⟩) (fun c hc => by simp at hc)
    clear hall hG hb hH gk kk g0 g1 g2 g3 g4 g5 g6 g7 g8 g9 g10 g11 g12 g13 g14 g15 g16 g17 g18 g19 g20 k0 k1
    obtain ⟨q, h1, h4, h5⟩ := HW.out
    have HR : Hid (W.ownsRow B 37 2 (.slice (some ⟨gr, 0, none⟩) n c7) n ((l.set j ⟨y.n, q, x⟩).flatMap (rbCells size)) ∧ B ≤ q ∧ Blk W q [] x []) := ⟨h1, h4, h5⟩
    have XE : Hid (Below w''.heap.size w'' W) := BBx.out W XW.out
    clear h1 h4 h5 HW
    go_wp2
    go_ret2
    exact ⟨_, q, rfl, by rw [HBB.out, HQ.out]; exact HR.out.1, by rw [HBB.out]; exact HR.out.2.1, by rw [HQ.out]; exact HR.out.2.2, XE.out⟩

end Go.Proofs.Ytofbklabapmdcaa
