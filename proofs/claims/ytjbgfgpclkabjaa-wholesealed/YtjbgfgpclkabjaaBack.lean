/-
  The walk of the statement WireBack.
-/
import Derived.Test.YtjbgfgpclkabjaaWireS
import Derived.Test.YtjbgfgpclkabjaaItems
namespace Go.Proofs.Ytjbgfgpclkabjaa
open Go.RowKit
set_option linter.unusedVariables false

/-- Does an item's number fit its size? -/
def It.fits (x : It) : Bool := decide (1 ≤ x.s ∧ x.s ≤ 8 ∧ x.n < 2 ^ (8 * x.s.toNat))

/-- The bytes of the numbers that fit. -/
def outB (l : List It) : List UInt8 := (l.filter It.fits).flatMap fun x => be x.n x.s.toNat

theorem be_length (n s : Nat) : (be n s).length = s := by simp [be]

theorem outB_length (l : List It) : (outB l).length ≤ 8 * l.length := by
  induction l with
  | nil => simp [outB]
  | cons x l ih =>
    unfold outB at ih ⊢
    by_cases h : x.fits = true
    · rw [List.filter_cons_of_pos h]
      simp only [List.flatMap_cons, List.length_append, be_length, List.length_cons]
      have h2 : x.s ≤ 8 := by simp [It.fits] at h; exact h.2.1
      omega
    · rw [List.filter_cons_of_neg h]
      simp only [List.length_cons]
      omega

theorem Try.info42 : (Try.prog.info? 42).map (fun i => (i.zero, i.size, i.bytes)) = some (some (.agg #[.int .u64 0, .int .i64 0, .slice none 0 0]), 3, 40) := by kernel_rfl

theorem num64_be_take (n s : Nat) (hn : n < 18446744073709551616) : ∀ k, k ≤ s → num64 ((be n s).take k) = n / 2 ^ (8 * (s - k)) % 2 ^ (8 * k) := by
  intro k
  induction k with
  | zero => intro _; simp [num64, Nat.mod_one]
  | succ k ih =>
    intro hk
    have hl : k < (be n s).length := by rw [be_length]; omega
    have e := num64_next (l := be n s) (j := k) (m := num64 ((be n s).take k)) (y := (be n s)[k]) hl rfl rfl
    rw [← e, ih (by omega)]
    have hy : ((be n s)[k]).toNat = n / 2 ^ (8 * (s - 1 - k)) % 256 := by simp [be]
    rw [hy]
    obtain ⟨t, ht⟩ : ∃ t, s - 1 - k = t := ⟨_, rfl⟩
    have h1 : s - (k + 1) = t := by omega
    have h2 : s - k = t + 1 := by omega
    rw [ht, h1, h2]
    have h3 : n / 2 ^ (8 * (t + 1)) = n / 2 ^ (8 * t) / 256 := by
      rw [Nat.div_div_eq_div_mul, show 8 * (t + 1) = 8 * t + 8 by omega, Nat.pow_add]
    rw [h3]
    generalize hA : n / 2 ^ (8 * t) = A
    have hAn : A ≤ n := by rw [← hA]; exact Nat.div_le_self _ _
    have hp : 2 ^ (8 * (k + 1)) = 256 * 2 ^ (8 * k) := by rw [show 8 * (k + 1) = 8 + 8 * k by omega, Nat.pow_add]
    have hm : A % 2 ^ (8 * (k + 1)) = A / 256 % 2 ^ (8 * k) * 256 + A % 256 := by
      rw [hp, Nat.mod_mul]
      omega
    have hle : A % 2 ^ (8 * (k + 1)) ≤ A := Nat.mod_le _ _
    rw [hm] at hle ⊢
    exact Nat.mod_eq_of_lt (Nat.lt_of_le_of_lt (Nat.le_trans hle hAn) hn)

theorem num64_be (n s : Nat) (hn : n < 2 ^ (8 * s)) (h64 : n < 18446744073709551616) : num64 (be n s) = n := by
  have h := num64_be_take n s h64 s (Nat.le_refl _)
  rw [List.take_of_length_le (by rw [be_length]; exact Nat.le_refl _), Nat.sub_self] at h
  rw [h]
  simp
  exact Nat.mod_eq_of_lt hn

theorem owned_slN {w : World} {base : Nat} {e : TypeId} {size : Nat} {v : Value} {n : Nat} {cs : List Value} (h : w.ownsRow base e size v n cs) : Sl size w v n cs := by
  obtain ⟨h1, h2⟩ := h
  refine ⟨h1, ?_⟩
  rcases h2 with ⟨rfl, rfl⟩ | ⟨g, cap, cur, rfl, hg, hh, hnc, hcm, hcs, htake⟩
  · exact ⟨none, 0, rfl, by omega, by simp [maxLen], fun _ => rfl, .inl rfl⟩
  · refine ⟨some ⟨g, 0, none⟩, cap, rfl, hnc, hcm, fun h => by simp at h, .inr ⟨g, 0, rfl, ?_⟩⟩
    intro j u hj
    have hjl : j < cs.length := (List.getElem?_eq_some_iff.1 hj).1
    rw [← htake] at hj
    rw [List.getElem?_take] at hj
    simp only [World.cell?, hh]
    split at hj
    · simpa using hj
    · simp at hj

/-- The bytes of some items' numbers. -/
def outF (l : List It) : List UInt8 := l.flatMap fun x => be x.n x.s.toNat

theorem outF_drop {l : List It} {k : Nat} (h : k < l.length) : outF (l.drop k) = be l[k].n l[k].s.toNat ++ outF (l.drop (k + 1)) := by
  rw [List.drop_eq_getElem_cons h]
  unfold outF
  rw [List.flatMap_cons]

theorem lit3 (w : World) (a b c : Value) (t : TypeId) : Sl 3 (w.alloc (.cells #[a, b, c] t)) (.slice (some ⟨w.heap.size, 0, none⟩) 1 1) 1 [a, b, c] := by
  refine ⟨rfl, _, _, rfl, Nat.le_refl _, by simp [maxLen], fun h => by simp at h, .inr ⟨_, _, rfl, ?_⟩⟩
  intro j u hj
  rw [World.cell?_alloc_new, Nat.zero_add]
  simpa using hj

theorem owns_kept {w w' : World} {base : Nat} {e : TypeId} {size : Nat} {v : Value} {n : Nat} {xs : List Value} (h : w.ownsRow base e size v n xs) (hk : ∀ q, v.ownBlock = some q → w'.heap[q]? = w.heap[q]?) : w'.ownsRow base e size v n xs := by
  refine ⟨h.1, ?_⟩
  rcases h.2 with h' | ⟨g, cap, cur, hv, hg, hh, hx⟩
  · exact .inl h'
  · refine .inr ⟨g, cap, cur, hv, hg, ?_, hx⟩
    rw [hk g (by rw [hv]; rfl)]
    exact hh

set_option maxRecDepth 100000 in
set_option maxHeartbeats 1000000 in
theorem back_walk (v0 : Value) (l : List It) (w : World) (h0 : Items w v0 l) :
    Calls Try.prog 11 #[v0] w fun e w' => e = .returned (.bool true) ∧ Below w.heap.size w w' := by
  obtain ⟨i0, hi, hz0, hz1, hz2⟩ := info_parts Try.info42
  have H0 : Hid (Items w v0 l) := h0
  obtain ⟨⟨hll, a0, c0, rfl, hc0, hm0, _, hcell⟩, hok⟩ := h0
  unfold maxLen at hm0
  have HOK : Hid (∀ x ∈ l, x.ok w) := hok
  clear hok hll
  by_cases hA : 50 < l.length
  · go_enter Try.func11, Try.ntmps11
    go_wp2_with fail
    refine (speaks2_any w).mono ?_
    rintro e w1 ⟨rfl, hb1⟩
    have X1 : Hid (Below w.heap.size w w1) := hb1
    clear hb1
    go_wp2
    go_ret
    exact ⟨rfl, X1.out⟩
  have hA' : l.length ≤ 50 := by omega
  clear hA
  go_enter Try.func11, Try.ntmps11
  go_wp2_with fail
  refine (speaks2_any w).mono ?_
  rintro e w1 ⟨rfl, hb1⟩
  have X1 : Hid (Below w.heap.size w (w1.alloc (.cells #[.slice none 0 0] 39))) := hb1.alloc hb1.size _
  have W1 : Hid (IsWr (w1.alloc (.cells #[.slice none 0 0] 39)) w.heap.size w1.heap.size none []) := zero_wr w1 w.heap.size hb1.size
  clear hb1
  go_wp2_with fail
  generalize w1.heap.size = b at *
  go_loopw [4, 21] (fun v i wr => ∃ (k : Nat) (row : Option Nat), k ≤ l.length ∧ i = .int .i64 k ∧ IsWr wr w.heap.size b row (outB (l.take k)) ∧ wr.ownsRow w.heap.size 42 3 v ((l.take k).filter It.fits).length (((l.take k).filter It.fits).flatMap It.cells) ∧ Below w.heap.size w wr ∧ (∀ q, v.ownBlock = some q → q ≠ b ∧ row ≠ some q)) (fun _ i _ => l.length - (intOf i).toNat)
  case atStart => exact ⟨0, none, by omega, rfl, W1.out, World.ownsRow_nil _ _ _ _, X1.out, fun q hq => by cases hq⟩
  case round =>
    obtain ⟨k, row, hk, rfl, hwr, hown, hbel, hdis⟩ := hrel
    have XB : Hid (Below w.heap.size w wr) := hbel
    have WB : Hid (IsWr wr w.heap.size b row (outB (l.take k))) := hwr
    have DB : Hid (∀ q, u4.ownBlock = some q → q ≠ b ∧ row ≠ some q) := hdis
    clear hbel hwr hdis
    by_cases hlt : k < l.length
    · rcases hcell with hz | ⟨pb, po, rfl, hcl⟩
      · omega
      have hx := HOK.out l[k] (List.getElem_mem hlt)
      have c0 : w.cell? ⟨pb, po + k * 3, none⟩ = some (.int .u64 l[k].n) := hcl (k * 3) _ (by have := cells_at l k hlt 0 (by omega); simpa [It.cells] using this)
      have c1 : w.cell? ⟨pb, po + k * 3 + 1, none⟩ = some (.int .i64 l[k].s) := by have := hcl (k * 3 + 1) (.int .i64 l[k].s) (by have := cells_at l k hlt 1 (by omega); simpa [It.cells] using this); simpa [Nat.add_assoc] using this
      have c2 : w.cell? ⟨pb, po + k * 3 + 2, none⟩ = some l[k].v := by have := hcl (k * 3 + 2) l[k].v (by have := cells_at l k hlt 2 (by omega); simpa [It.cells] using this); simpa [Nat.add_assoc] using this
      have d0 := (XB.out.cell (cell_block_lt c0)).trans c0
      have d1 := (XB.out.cell (cell_block_lt c1)).trans c1
      have d2 := (XB.out.cell (cell_block_lt c2)).trans c2
      clear c0 c1 c2 hcl
      obtain ⟨x1, x2, x3, x4⟩ := hx
      obtain ⟨_, xa, xc, hxv, _⟩ := id x4
      rw [hxv] at d2
      have hN1 : l.take (k + 1) = l.take k ++ [l[k]] := List.take_succ_eq_append_getElem hlt
      have HN1 : Hid (l.take (k + 1) = l.take k ++ [l[k]]) := hN1
      have HXV0 : Hid (l[k].v = .slice xa l[k].b.length xc) := hxv
      clear hN1 hxv
      have HX4 : Hid (Bs w l[k].v l[k].b) := x4
      clear x4
      generalize l[k] = x at *
      obtain ⟨xn, xs, xv, xb⟩ := x
      simp only at x1 x2 x3 d0 d1 d2
      have HXV : Hid (xv = .slice xa xb.length xc) := HXV0
      clear HXV0
      have hbl := WB.out.lt
      by_cases hfit : It.fits ⟨xn, xs, xv, xb⟩ = true
      · have hf2 := hfit
        simp only [It.fits, decide_eq_true_eq] at hf2
        obtain ⟨f1, f2, f3⟩ := hf2
        obtain ⟨S, rfl⟩ := Int.eq_ofNat_of_zero_le (show 0 ≤ xs by omega)
        simp only [Int.toNat_natCast] at f3
        have HF : Hid (It.fits ⟨xn, S, xv, xb⟩ = true) := hfit
        have F3 : Hid (xn < 2 ^ (8 * S)) := f3
        clear hfit f3
        have Wa : Hid (IsWr (wr.alloc (.cells #[.int .u64 xn, .int .i64 S, .slice xa xb.length xc] 42)) w.heap.size b row (outB (l.take k))) := WB.out.below ((Below.refl _ _).alloc (Nat.le_refl _) _)
        go_wp2_with fail
        refine (put_yes w.heap.size b row _ xn S _ Wa.out (by have := XB.out.size; simp; omega) (by omega) (by omega) F3.out (by have := outB_length (l.take k); simp at this; omega)).mono ?_
        rintro e w2 ⟨rfl, row2, hw2, hf2, hr2⟩
        have hw1b : wr.heap.size ≠ b := by have := hbl.1; omega
        have hw1r : some wr.heap.size ≠ row := by intro e; have := (hbl.2 _ e.symm).2; omega
        have hk2 := hf2.block wr.heap.size (by simp) hw1b hw1r
        have e0 : w2.cell? ⟨wr.heap.size, 0, none⟩ = some (.int .u64 xn) := (World.cell?_of_block (a := ⟨wr.heap.size, 0, none⟩) hk2).trans (by simp)
        have e1 : w2.cell? ⟨wr.heap.size, 1, none⟩ = some (.int .i64 S) := (World.cell?_of_block (a := ⟨wr.heap.size, 1, none⟩) hk2).trans (by simp)
        have e2 : w2.cell? ⟨wr.heap.size, 2, none⟩ = some (.slice xa xb.length xc) := (World.cell?_of_block (a := ⟨wr.heap.size, 2, none⟩) hk2).trans (by simp)
        have hown' := hown.alloc (.cells #[.int .u64 xn, .int .i64 S, .slice xa xb.length xc] 42)
        have ho2 : w2.ownsRow w.heap.size 42 3 u4 ((l.take k).filter It.fits).length (((l.take k).filter It.fits).flatMap It.cells) := by
          refine owns_kept hown' (fun q hq => ?_)
          have hd := DB.out q hq
          exact hf2.block q (by have := (hown.lt q hq).2; simp; omega) hd.1 (Ne.symm hd.2)
        have B2 : Hid (Below w.heap.size w w2) := (XB.out.alloc XB.out.size _).trans (hf2.wr Wa.out (by have := XB.out.size; simp; omega))
        have W2 : Hid (IsWr w2 w.heap.size b row2 (outB (l.take k) ++ be xn S)) := hw2
        have D2 : Hid (∀ q, u4.ownBlock = some q → q ≠ b ∧ row2 ≠ some q) := by
          intro q hq
          have hd := DB.out q hq
          refine ⟨hd.1, ?_⟩
          rcases hr2 with rfl | ⟨m, rfl, hm⟩
          · exact hd.2
          · intro e
            injection e with e
            have := (hown.lt q hq).2
            simp at hm
            omega
        have O2 : Hid (w2.ownsRow w.heap.size 42 3 u4 ((l.take k).filter It.fits).length (((l.take k).filter It.fits).flatMap It.cells)) := ho2
        have hcnt : ((l.take k).filter It.fits).length ≤ 50 := by have := List.length_filter_le It.fits (l.take k); simp at this; omega
        have HNf : Hid ((l.take (k + 1)).filter It.fits = (l.take k).filter It.fits ++ [⟨xn, S, xv, xb⟩]) := by
          unfold Hid
          rw [HN1.out, List.filter_append, List.filter_cons_of_pos HF.out]
          rfl
        have HNo : Hid (outB (l.take (k + 1)) = outB (l.take k) ++ be xn S) := by
          unfold Hid outB
          rw [HNf.out, List.flatMap_append]
          simp
        clear hown' ho2 hf2 hr2 hw2 hk2 Wa WB XB hown DB
        generalize outB (l.take k) = oB at *
        generalize (l.take k).filter It.fits = fl at *
        have hone : Hid (∀ u ∈ [Value.int .u64 xn, .int .i64 S, .slice xa xb.length xc], u.oneCell' = true) := by intro u hu; simp at hu; rcases hu with rfl | rfl | rfl <;> rfl
        have B2s := B2.out.size
        go_wp2_with (at_builtin; (refine wpList_app _ rfl (.tmp 30) (.tmp 32) 37 rfl w.heap.size 42 i0 (.agg #[.int .u64 0, .int .i64 0, .slice none 0 0]) 3 40 Try.underlying37 hi hz0 hz1 hz2 rfl (by decide) u4 fl.length (fl.flatMap It.cells) rfl (O2.out.alloc _) (.slice (some ⟨w2.heap.size, 0, none⟩) 1 1) 1 [.int .u64 xn, .int .i64 S, .slice xa xb.length xc] rfl (lit3 _ _ _ _ _) hone.out (by unfold maxLen; omega) (by omega) (by simp; omega) ?_); intro a1 c1 w3 ho hgrow hat hne2 hnc2 hcm2)
        have hl2 := W2.out.lt
        have hg2 : ∀ j, j < w2.heap.size → some j ≠ u4.ownBlock → w3.heap[j]? = w2.heap[j]? := fun j hj hne => (hgrow.block j (by simp; omega) hne).trans (Below.heap_alloc w2 _ j hj)
        have W3 : IsWr w3 w.heap.size b row2 (oB ++ be xn S) := by
          refine W2.out.kept (hg2 b hl2.1 (fun e => (D2.out b e.symm).1 rfl)) (fun j hj => hg2 j (hl2.2 j hj).2 (fun e => (D2.out j e.symm).2 hj))
        have B3 : Below w.heap.size w w3 := (B2.out.alloc B2s _).grown hgrow (by simp; omega) (fun j hj => (O2.out.lt j hj).1)
        have D3 : ∀ q, (Value.slice a1 (fl.length + 1) c1).ownBlock = some q → q ≠ b ∧ row2 ≠ some q := by
          intro q hq
          rcases hat with e | e
          · rw [e] at hq
            exact D2.out q hq
          · rw [e] at hq
            injection hq with hq
            simp at hq
            refine ⟨by have := hl2.1; omega, fun e2 => ?_⟩
            have := (hl2.2 q e2).2
            omega
        clear hg2 hgrow hat hl2
        go_roundw
        case rel =>
          refine ⟨k + 1, row2, by omega, by go_num, by rw [HNo.out]; exact W3, ?_, B3, D3⟩
          rw [HNf.out, List.flatMap_append, List.length_append]
          have hxv : xv = .slice xa xb.length xc := HXV.out
          rw [hxv]
          exact ho
        case measure => simp [intOf]; omega
      · have hfit' : It.fits ⟨xn, xs, xv, xb⟩ = false := by simpa using hfit
        have hno : ¬ (1 ≤ xs ∧ xs ≤ 8) ∨ 2 ^ (8 * xs.toNat) ≤ xn := by
          have h2 := hfit
          simp only [It.fits, decide_eq_true_eq] at h2
          by_cases hh : 1 ≤ xs ∧ xs ≤ 8
          · exact .inr (Nat.le_of_not_lt (fun h3 => h2 ⟨hh.1, hh.2, h3⟩))
          · exact .inl hh
        have HF : Hid (It.fits ⟨xn, xs, xv, xb⟩ = false) := hfit'
        have HNO : Hid (¬ (1 ≤ xs ∧ xs ≤ 8) ∨ 2 ^ (8 * xs.toNat) ≤ xn) := hno
        clear hfit hfit' hno
        go_wp2_with fail
        refine (put_no b xn xs _ x1 HNO.out).mono ?_
        rintro e w2 ⟨rfl, hw2⟩
        have XX : Hid (w2 = wr.alloc (.cells #[.int .u64 xn, .int .i64 xs, .slice xa xb.length xc] 42)) := hw2
        clear hw2
        go_wp2
        go_roundw
        case rel =>
          have e1 : (l.take (k + 1)).filter It.fits = (l.take k).filter It.fits := by
            rw [HN1.out, List.filter_append, List.filter_cons_of_neg (by rw [HF.out]; simp)]
            simp
          have e2 : outB (l.take (k + 1)) = outB (l.take k) := by unfold outB; rw [e1]
          rw [XX.out]
          refine ⟨k + 1, row, by omega, by go_num, ?_, ?_, XB.out.alloc XB.out.size _, DB.out⟩
          · rw [e2]; exact WB.out.below ((Below.refl _ _).alloc (Nat.le_refl _) _)
          · rw [e1]; exact hown.alloc _
        case measure => simp [intOf]; omega
    · have hk' : l.take k = l := List.take_of_length_le (by omega)
      rw [hk'] at hown
      have WB' : Hid (IsWr wr w.heap.size b row (outB l)) := by have h := WB.out; rw [hk'] at h; exact h
      have hob : outB l = outF (l.filter It.fits) := rfl
      have hfl : ∀ x ∈ l.filter It.fits, x.fits = true ∧ x.ok w := fun x hx => ⟨(List.mem_filter.1 hx).2, HOK.out x (List.mem_filter.1 hx).1⟩
      have hcnt : (l.filter It.fits).length ≤ 50 := by have := List.length_filter_le It.fits l; omega
      have hbl2 := outB_length l
      rw [hob] at WB' hbl2
      have HFL : Hid (∀ x ∈ l.filter It.fits, x.fits = true ∧ x.ok w) := hfl
      clear hob hfl WB hk' hcell
      generalize l.filter It.fits = fl at *
      obtain ⟨ao, co, rfl, hco1, hco2, hco3⟩ := owned_slice hown
      unfold maxLen at hco2
      have HO : Hid (wr.ownsRow w.heap.size 42 3 (.slice ao fl.length co) fl.length (fl.flatMap It.cells)) := hown
      have hcs := (owned_slN hown)
      clear hown DB
      go_wp2_with fail
      refine (bytes_any _ _ _ _ _ WB'.out (by omega)).mono ?_
      rintro e w3 ⟨q3, rfl, hq3, ho3, hb3⟩
      have X3 : Hid (Below w.heap.size w w3) := XB.out.trans (hb3.mono XB.out.size)
      have O3 : Hid (Bs w3 (.slice (some ⟨q3, 0, none⟩) (outF fl).length (outF fl).length) (outF fl)) := ho3.bs (by omega)
      have P3 : Hid (w3.ownsRow w.heap.size 42 3 (.slice ao fl.length co) fl.length (fl.flatMap It.cells)) := owns_kept HO.out (fun q hq => hb3.block q (HO.out.lt q hq).2)
      clear hq3 ho3 hb3 WB' XB HO
      have hoL : (outF fl).length ≤ 1000000 := by omega
      have Hol : Hid ((outF fl).length ≤ 1000000) := hoL
      clear hbl2 hoL hcs
      go_wp2_with fail
      refine (read_any _ (outF fl) _ O3.out Hol.out).mono ?_
      rintro e w4 ⟨r, q4, rfl, hq4, hr4, hq4l, hrd, hb4⟩
      have X4 : Hid (Below w.heap.size w w4) := X3.out.trans (hb4.mono X3.out.size)
      have P4 : Hid (w4.ownsRow w.heap.size 42 3 (.slice ao fl.length co) fl.length (fl.flatMap It.cells)) := owns_kept P3.out (fun q hq => hb4.block q (P3.out.lt q hq).2)
      have R4 : Hid (IsRd w4 r q4 (outF fl)) := hrd
      have D4 : Hid (w.heap.size ≤ r ∧ q4 < w4.heap.size ∧ (∀ q, (Value.slice ao fl.length co).ownBlock = some q → q ≠ r)) :=
        ⟨by have := X3.out.size; omega, hq4l, fun q hq => by have := (P3.out.lt q hq).2; omega⟩
      clear hq4 hr4 hq4l hrd hb4 X3 P3 O3
      go_wp2_with fail
      go_loopw [39] (fun i wr => ∃ (k : Nat), k ≤ fl.length ∧ i = .int .i64 k ∧ IsRd wr r q4 (outF (fl.drop k)) ∧ wr.ownsRow w.heap.size 42 3 (.slice ao fl.length co) fl.length (fl.flatMap It.cells) ∧ Below w.heap.size w wr ∧ q4 < wr.heap.size) (fun i _ => fl.length - (intOf i).toNat)
      case atStart => exact ⟨0, by omega, rfl, by simpa using R4.out, P4.out, X4.out, D4.out.2.1⟩
      case round =>
        obtain ⟨k, hk, rfl, hrd, hown, hbel, hqs⟩ := hrel
        have QS : Hid (q4 < wr.heap.size) := hqs
        clear hqs
        have XB : Hid (Below w.heap.size w wr) := hbel
        have RB : Hid (IsRd wr r q4 (outF (fl.drop k))) := hrd
        have OB : Hid (wr.ownsRow w.heap.size 42 3 (.slice ao fl.length co) fl.length (fl.flatMap It.cells)) := hown
        clear hbel hrd
        by_cases hlt : k < fl.length
        · obtain ⟨_, a', c', hv', _, _, _, h5⟩ := owned_slN hown
          injection hv' with e1 e1b e1c
          subst e1c
          clear e1b
          rcases h5 with h5 | ⟨pb, po, e2, hcl⟩
          · omega
          rw [e2] at e1
          subst e1
          clear e2
          obtain ⟨hx1, hx2⟩ := HFL.out fl[k] (List.getElem_mem hlt)
          have d0 : wr.cell? ⟨pb, po + k * 3, none⟩ = some (.int .u64 fl[k].n) := hcl (k * 3) _ (by have := cells_at fl k hlt 0 (by omega); simpa [It.cells] using this)
          have d1 : wr.cell? ⟨pb, po + k * 3 + 1, none⟩ = some (.int .i64 fl[k].s) := by have := hcl (k * 3 + 1) (.int .i64 fl[k].s) (by have := cells_at fl k hlt 1 (by omega); simpa [It.cells] using this); simpa [Nat.add_assoc] using this
          have d2 : wr.cell? ⟨pb, po + k * 3 + 2, none⟩ = some fl[k].v := by have := hcl (k * 3 + 2) fl[k].v (by have := cells_at fl k hlt 2 (by omega); simpa [It.cells] using this); simpa [Nat.add_assoc] using this
          obtain ⟨y1, y2, y3, y4⟩ := hx2
          obtain ⟨_, xa, xc, hxv, _⟩ := id y4
          rw [hxv] at d2
          have HN1 : Hid (outF (fl.drop k) = be fl[k].n fl[k].s.toNat ++ outF (fl.drop (k + 1))) := outF_drop hlt
          clear hcl hown y4 hxv
          generalize fl[k] = x at *
          obtain ⟨xn, xs, xv, xb⟩ := x
          simp only at y1 y2 y3 d0 d1 d2
          simp only [It.fits, decide_eq_true_eq] at hx1
          obtain ⟨f1, f2, f3⟩ := hx1
          obtain ⟨S, rfl⟩ := Int.eq_ofNat_of_zero_le (show 0 ≤ xs by omega)
          simp only [Int.toNat_natCast] at f3
          have F3 : Hid (xn < 2 ^ (8 * S)) := f3
          have HN2 : Hid (outF (fl.drop k) = be xn S ++ outF (fl.drop (k + 1))) := HN1.out
          clear f3 HN1
          have Rr : Hid (IsRd (wr.alloc (.cells #[.int .u64 xn, .int .i64 S, .slice xa xb.length xc] 42)) r q4 (be xn S ++ outF (fl.drop (k + 1)))) := by
            rw [← HN2.out]
            exact RB.out.kept (Below.heap_alloc _ _ _ RB.out.lt) (Below.heap_alloc _ _ _ QS.out)
          go_wp2_with fail
          refine (take_yes r q4 _ S _ Rr.out (by omega) (by omega) (by rw [List.length_append, be_length]; omega)).mono ?_
          rintro e w5 ⟨rfl, hrd5, hg5, hs5⟩
          have et : (be xn S ++ outF (fl.drop (k + 1))).take S = be xn S := List.take_left' (be_length xn S)
          have ed : (be xn S ++ outF (fl.drop (k + 1))).drop S = outF (fl.drop (k + 1)) := List.drop_left' (be_length xn S)
          rw [et, num64_be xn S F3.out y1]
          rw [ed] at hrd5
          have hrl := RB.out.lt
          have hk5 := hg5.block wr.heap.size (by simp) (by intro e; injection e with e; omega)
          have g0 : w5.cell? ⟨wr.heap.size, 0, none⟩ = some (.int .u64 xn) := (World.cell?_of_block (a := ⟨wr.heap.size, 0, none⟩) hk5).trans (by simp)
          have XF : Hid (IsRd w5 r q4 (outF (fl.drop (k + 1))) ∧ w5.ownsRow w.heap.size 42 3 (.slice (some ⟨pb, po, none⟩) fl.length co) fl.length (fl.flatMap It.cells) ∧ Below w.heap.size w w5 ∧ q4 < w5.heap.size) := by
            refine ⟨hrd5, ?_, ?_, ?_⟩
            · refine owns_kept (OB.out.alloc (.cells #[.int .u64 xn, .int .i64 S, .slice xa xb.length xc] 42)) (fun q hq => hg5.block q ?_ ?_)
              · have := (OB.out.lt q hq).2
                simp
                omega
              · intro e
                injection e with e
                exact D4.out.2.2 q hq e
            · exact (XB.out.alloc XB.out.size _).grown hg5 (by have := XB.out.size; simp; omega) (fun j hj => by injection hj with hj; have := D4.out.1; omega)
            · rw [hs5]
              have := QS.out
              simp
              omega
          clear hrd5 hg5 hs5 hk5 et ed Rr OB QS XB RB
          go_wp2
          go_roundw
          case rel => exact ⟨k + 1, by omega, by go_num, XF.out⟩
          case measure => simp [intOf]; omega
        · have hd : fl.drop k = [] := List.drop_eq_nil_of_le (by omega)
          have RB' : Hid (IsRd wr r q4 []) := by have h := RB.out; rw [hd] at h; exact h
          clear RB hown OB hd
          go_wp2_with fail
          refine (take_no r q4 [] 1 _ RB'.out (.inr (by simp))).mono ?_
          rintro e w5 ⟨rfl, rfl⟩
          go_wp2_with fail
          refine (left_any r q4 [] _ RB'.out).mono ?_
          rintro e w6 ⟨rfl, rfl⟩
          go_wp2
          go_ret
          exact ⟨rfl, XB.out⟩

end Go.Proofs.Ytjbgfgpclkabjaa
