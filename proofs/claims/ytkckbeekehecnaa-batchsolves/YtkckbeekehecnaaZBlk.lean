/-
  Texts that lie together: BlkR BlkS CoM.
-/
import Derived.Test.YtkckbeekehecnaaZBase
import Derived.RegionTactic
namespace Go.Proofs.Ytkckbeekehecnaa

section
/-
  The walks of the document's own answers for block: Fits, Sum, Zero; and of the statements' first look.
-/
open Go.RowKit
set_option linter.unusedVariables false

set_option maxHeartbeats 400000 in
/-- Fits: it only reads. -/
theorem rfits_any (n : Int) (pv : Value) (vs : List Value) (ls : List (List UInt8)) (w : World) (hp : Sl 1 w pv vs.length vs) (hps : Parts w vs ls) :
    Calls Try.prog 42 #[.int .i64 n, pv] w fun e w' => e = .returned (.bool (decide (0 ≤ n) && fitB n.toNat ls)) ∧ w' = w := by
  obtain ⟨-, ao, cap, rfl, h2, h3, -, h5⟩ := hp
  unfold maxLen at h3
  obtain ⟨hlen, hpart⟩ := hps
  obtain ⟨m, hm⟩ : ∃ m, vs.length = m := ⟨_, rfl⟩
  rw [hm] at h2 h5 ⊢
  have Hm : Hid (vs.length = m) := hm
  have Hl : Hid (ls.length = m) := by unfold Hid; omega
  clear hm hlen
  go_enter Try.func42, Try.ntmps42
  go_wp2
  go_loop [5] (fun i => ∃ k : Nat, k ≤ m ∧ i = .int .i64 k ∧ fitB n.toNat ls = fitB n.toNat (ls.drop k)) (fun i => m - (intOf i).toNat)
  case atStart => exact ⟨0, by omega, rfl, rfl⟩
  case round =>
    obtain ⟨k, hk, rfl, he⟩ := hrel
    have HE : Hid (fitB n.toNat ls = fitB n.toNat (ls.drop k)) := he
    clear he
    by_cases hlt : k < m
    · have hkv : k < vs.length := by rw [Hm.out]; exact hlt
      have hkl : k < ls.length := by rw [Hl.out]; exact hlt
      rcases h5 with h0 | ⟨b, off, rfl, hc⟩
      · omega
      have hck := hc k vs[k] (List.getElem?_eq_getElem hkv)
      have hb := hpart k vs[k] ls[k] (List.getElem?_eq_getElem hkv) (List.getElem?_eq_getElem hkl)
      obtain ⟨-, ao', c', hv, g2, g3, -, -⟩ := hb
      rw [hv] at hck
      unfold maxLen at g3
      have HD : Hid (fitB n.toNat (ls.drop k) = ((ls[k].length == n.toNat) && fitB n.toNat (ls.drop (k + 1)))) := by
        unfold Hid
        rw [List.drop_eq_getElem_cons hkl, fitB_cons]
      clear hv hc hpart
      generalize ls[k].length = q at *
      by_cases hq : (q : Int) = n
      · have hq2 : (q == n.toNat) = true := by rw [← hq]; simp
        rw [hq2] at HD
        have hq' : ((q : Int) == n) = true := by simpa using hq
        clear hq hq2
        go_wp2
        go_round
        case rel => exact ⟨k + 1, by omega, by go_num, by rw [HE.out, HD.out, Bool.true_and]⟩
        case measure => simp [intOf]; omega
      · have HZ : Hid ((decide (0 ≤ n) && fitB n.toNat ls) = false) := by
          unfold Hid
          by_cases h0 : 0 ≤ n
          · have : (q == n.toNat) = false := by simp; omega
            rw [HE.out, HD.out, this]
            simp
          · simp [h0]
        have hq' : ((q : Int) == n) = false := by simpa using hq
        clear hq
        go_wp2
        go_ret
        exact ⟨ret_bool HZ.out.symm, rfl⟩
    · have HZ : Hid (fitB n.toNat ls = true) := by
        unfold Hid
        rw [HE.out, List.drop_eq_nil_of_le (by rw [Hl.out]; omega)]
        rfl
      go_wp2
      go_ret
      exact ⟨ret_bool (by rw [HZ.out]; simp), rfl⟩

set_option maxHeartbeats 400000 in
/-- Zero of the document: it only reads. -/
theorem rzero_any (v : Value) (l : List UInt8) (w : World) (hl : Bs w v l) : Calls Try.prog 41 #[v] w fun e w' => e = .returned (.bool (zeroB l)) ∧ w' = w := by
  obtain ⟨-, ao, cap, rfl, h2, h3, -, h5⟩ := hl
  unfold maxLen at h3
  obtain ⟨n, hn⟩ : ∃ n, l.length = n := ⟨_, rfl⟩
  rw [hn] at h2 h5 ⊢
  have Hn : Hid (l.length = n) := hn
  clear hn
  go_enter Try.func41, Try.ntmps41
  go_wp2
  go_loop [3] (fun i => ∃ k : Nat, k ≤ n ∧ i = .int .i64 k ∧ zeroB l = zeroB (l.drop k)) (fun i => n - (intOf i).toNat)
  case atStart => exact ⟨0, by omega, rfl, rfl⟩
  case round =>
    obtain ⟨k, hk, rfl, he⟩ := hrel
    have HE : Hid (zeroB l = zeroB (l.drop k)) := he
    clear he
    by_cases hlt : k < n
    · have hkl : k < l.length := by rw [Hn.out]; exact hlt
      rcases h5 with h0 | ⟨b, off, rfl, hc⟩
      · omega
      have hck := hc k _ (map_bv_at l k hkl)
      have HD : Hid (zeroB (l.drop k) = (l[k] == 0 && zeroB (l.drop (k + 1)))) := by
        unfold Hid
        rw [List.drop_eq_getElem_cons hkl]
        rfl
      clear hc
      generalize l[k] = x at *
      by_cases hx : x = 0
      · subst hx
        go_wp2
        go_round
        case rel => exact ⟨k + 1, by omega, by go_num, by rw [HE.out, HD.out]; simp⟩
        case measure => simp [intOf]; omega
      · have hx' : ((x.toNat : Int) == 0) = false := by
          have : x.toNat ≠ 0 := fun h => hx (UInt8.toNat_inj.1 (by simpa using h))
          simp
          omega
        go_wp2
        go_ret
        exact ⟨ret_bool (by rw [HE.out, HD.out]; simp [hx]), rfl⟩
    · go_wp2
      go_ret
      exact ⟨ret_bool (by rw [HE.out, List.drop_eq_nil_of_le (by rw [Hn.out]; omega)]; rfl), rfl⟩

/-- One byte of the sum of the first blocks. -/
def byteOf (ls : List (List UInt8)) (k : Nat) : UInt8 := ls.foldl (fun a x => a ^^^ x.getD k 0) 0

/-- The sum, its first k bytes, and j blocks of the next. -/
def sumTo (n : Nat) (ls : List (List UInt8)) (k j : Nat) : List UInt8 := (List.range n).map fun i => if i < k then byteOf ls i else if i = k then byteOf (ls.take j) i else 0

theorem sumTo_length (n : Nat) (ls : List (List UInt8)) (k j : Nat) : (sumTo n ls k j).length = n := by simp [sumTo]
theorem sumTo_start (n : Nat) (ls : List (List UInt8)) : sumTo n ls 0 0 = zeros n := by
  apply List.ext_getElem
  · simp [sumTo, zeros]
  · intro i h1 h2
    simp only [sumTo, List.getElem_map, List.getElem_range, zeros, List.getElem_replicate]
    by_cases h : i = 0 <;> simp [h, byteOf]
theorem sumTo_end (n : Nat) (ls : List (List UInt8)) (k j : Nat) (hj : ls.length ≤ j) : sumTo n ls k j = sumTo n ls (k + 1) 0 := by
  unfold sumTo
  apply List.map_congr_left
  intro i hi
  by_cases h1 : i < k
  · simp [h1, show i < k + 1 by omega]
  · by_cases h2 : i = k
    · subst h2
      simp [List.take_of_length_le hj]
    · simp only [h1, h2, if_false, show ¬ i < k + 1 by omega]
      by_cases h3 : i = k + 1 <;> simp [h3, byteOf]
theorem sumTo_at (n : Nat) (ls : List (List UInt8)) (k j : Nat) (hk : k < n) : (sumTo n ls k j)[k]? = some (byteOf (ls.take j) k) := by
  simp [sumTo, hk]
theorem sumTo_next (n : Nat) (ls : List (List UInt8)) (k j : Nat) (hj : j < ls.length) : (sumTo n ls k j).set k (byteOf (ls.take j) k ^^^ ls[j].getD k 0) = sumTo n ls k (j + 1) := by
  apply List.ext_getElem
  · simp [sumTo]
  · intro i h1 h2
    rw [List.getElem_set]
    by_cases h : k = i
    · subst h
      simp only [if_true, sumTo, List.getElem_map, List.getElem_range, Nat.lt_irrefl, if_false]
      rw [List.take_succ_eq_append_getElem hj, byteOf, byteOf, List.foldl_append]
      rfl
    · simp [sumTo, h, show ¬ i = k from fun e => h e.symm]
theorem sumTo_all (n : Nat) (ls : List (List UInt8)) (k : Nat) (hk : n ≤ k) (hf : fitB n ls = true) : sumTo n ls k 0 = xorAll (zeros n) ls := by
  have hf' : ∀ x ∈ ls, x.length = (zeros n).length := fun x hx => by rw [zeros_length]; exact fitB_mem hf hx
  apply ext_getD
  · rw [sumTo_length, xorAll_length hf', zeros_length]
  · intro i hi
    rw [sumTo_length] at hi
    rw [getD_xorAll hf' i (by rw [zeros_length]; exact hi), getD_zeros]
    simp [sumTo, List.getD, hi, show i < k by omega, byteOf]

set_option maxRecDepth 100000 in
set_option maxHeartbeats 1000000 in
/-- Sum of the document. -/
theorem rsum_any (n : Nat) (pv : Value) (vs : List Value) (ls : List (List UInt8)) (w : World) (hn : n ≤ 16777216) (hp : Sl 1 w pv vs.length vs) (hps : Parts w vs ls) (hf : fitB n ls = true) :
    Calls Try.prog 43 #[.int .i64 n, pv] w fun e w' => e = .returned (.slice (some ⟨w.heap.size, 0, none⟩) n n) ∧ Blk w' w.heap.size [] (xorAll (zeros n) ls) [] ∧ Below w.heap.size w w' := by
  obtain ⟨i0, hi, hz0, hz1, hz2⟩ := info_parts Try.infoByte
  have HP : Hid (Sl 1 w pv vs.length vs) := hp
  obtain ⟨-, ao, pc, rfl, h2, h3, -, -⟩ := hp
  unfold maxLen at h3
  have HPS : Hid (Parts w vs ls) := hps
  have HF : Hid (fitB n ls = true) := hf
  obtain ⟨m, hm⟩ : ∃ m, vs.length = m := ⟨_, rfl⟩
  rw [hm] at h2 HP ⊢
  have Hm : Hid (vs.length = m) := hm
  have Hl : Hid (ls.length = m) := by have := hps.1; unfold Hid; omega
  clear hm hps hf
  go_enter Try.func43, Try.ntmps43
  go_wp2_with (at_make; refine wpList_make_full _ rfl _ _ 38 rfl w.heap.size 5 i0 (.int .u8 0) 1 Try.underlying38 hi hz0 hz1 _ _ _ _ n rfl rfl rfl rfl (by rw [hz2]; omega) (by unfold maxLen; omega) (Nat.le_refl _) ?_; intro w2 ho hgrow)
  have HB : Hid (Blk w2 w.heap.size [] (zeros n) []) := made_blk ho
  have HX : Hid (Below w.heap.size w w2) := below_new hgrow
  clear ho hgrow hi hz0 hz1 hz2
  go_loopw [6] (fun i wr => ∃ k : Nat, k ≤ n ∧ i = .int .i64 k ∧ Blk wr w.heap.size [] (sumTo n ls k 0) [] ∧ Below w.heap.size w wr) (fun i _ => n - (intOf i).toNat)
  case atStart => exact ⟨0, by omega, rfl, by rw [sumTo_start]; exact HB.out, HX.out⟩
  case round =>
    obtain ⟨k, hk, rfl, hbl, hbe⟩ := hrel
    have HBL : Hid (Blk wr w.heap.size [] (sumTo n ls k 0) []) := hbl
    have HBE : Hid (Below w.heap.size w wr) := hbe
    clear hbl hbe
    by_cases hlt : k < n
    · go_wp2
      go_loopw [7] (fun i wr => ∃ j : Nat, j ≤ m ∧ i = .int .i64 j ∧ Blk wr w.heap.size [] (sumTo n ls k j) [] ∧ Below w.heap.size w wr) (fun i _ => m - (intOf i).toNat)
      case atStart => exact ⟨0, by omega, rfl, HBL.out, HBE.out⟩
      case round =>
        obtain ⟨j, hj, rfl, hbl, hbe⟩ := hrel
        have HBJ : Hid (Blk wr w.heap.size [] (sumTo n ls k j) []) := hbl
        have HBF : Hid (Below w.heap.size w wr) := hbe
        clear hbl hbe
        by_cases hjt : j < m
        · have hjv : j < vs.length := by rw [Hm.out]; exact hjt
          have hjl : j < ls.length := by rw [Hl.out]; exact hjt
          have hc1 : wr.cell? ⟨w.heap.size, k, none⟩ = some (.int .u8 ((byteOf (ls.take j) k).toNat : Int)) := by
            have h := HBJ.out.cell k _ (by rw [List.getElem?_map, sumTo_at n ls k j hlt]; rfl)
            simpa [bv] using h
          have hf1 : wr.frozen? ⟨w.heap.size, k, none⟩ = false := HBJ.out.frozen _
          obtain ⟨-, a', c', hv, -, -, -, h5⟩ := HP.out.below HBF.out
          injection hv with e1 e1b e1c
          subst e1
          rcases h5 with h0 | ⟨b, off, e2, hc2⟩
          · omega
          subst e2
          have hck := hc2 j vs[j] (List.getElem?_eq_getElem hjv)
          have hbk := (HPS.out.2 j vs[j] ls[j] (List.getElem?_eq_getElem hjv) (List.getElem?_eq_getElem hjl)).below HBF.out
          have hln : ls[j].length = n := fitB_mem HF.out (List.getElem_mem hjl)
          obtain ⟨-, a3, c3, hv3, g2, g3, -, g5⟩ := hbk
          rw [hv3, hln] at hck
          unfold maxLen at g3
          rw [hln] at g2 g5
          rcases g5 with h0 | ⟨b3, o3, e3, hc3⟩
          · omega
          subst e3
          have hc4 := hc3 k _ (map_bv_at ls[j] k (by rw [hln]; exact hlt))
          have HS : Hid (Blk (wr.setCell ⟨w.heap.size, k, none⟩ (bv (byteOf (ls.take j) k ^^^ ls[j].getD k 0))) w.heap.size [] (sumTo n ls k (j + 1)) []) := by
            unfold Hid
            rw [← sumTo_next n ls k j hjl]
            have h := HBJ.out.set k (by rw [sumTo_length]; exact hlt) (byteOf (ls.take j) k ^^^ ls[j].getD k 0)
            simpa using h
          have hgd : ls[j].getD k 0 = ls[j][k]'(by rw [hln]; exact hlt) := by simp [List.getD, show k < ls[j].length by rw [hln]; exact hlt]
          rw [hgd] at HS
          clear hc2 e1b e1c hc3 hgd hv3
          generalize ls[j][k] = y at *
          clear hln
          generalize byteOf (ls.take j) k = x at *
          have HX2 : Hid (Value.int .u8 (bits BinOp.xor IntKind.u8 (x.toNat : Int) (y.toNat : Int)) = bv (x ^^^ y)) := xor_byte _ _
          have hx := x.toNat_lt
          have hy := y.toNat_lt
          have e1 : (k : Int) < (n : Int) := by omega
          have e2 : (j : Int) < (m : Int) := by omega
          go_wp2
          go_region
          go_wp2
          go_roundw
          case rel => exact ⟨j + 1, by omega, by go_num, by rw [HX2.out]; exact HS.out, (HBF.out.setCell (Nat.le_refl _) _).drew⟩
          case measure => simp [intOf]; omega
        · have HZ : Hid (Blk wr w.heap.size [] (sumTo n ls (k + 1) 0) []) := by
            have h := HBJ.out
            rw [sumTo_end n ls k j (by rw [Hl.out]; omega)] at h
            exact h
          go_wp2
          go_roundw
          case rel => exact ⟨k + 1, by omega, by go_num, HZ.out, HBF.out⟩
          case measure => simp [intOf]; omega
    · have HZ : Hid (Blk wr w.heap.size [] (xorAll (zeros n) ls) []) := by
        have h := HBL.out
        rw [sumTo_all n ls k (by omega) HF.out] at h
        exact h
      go_wp2
      go_ret
      exact ⟨rfl, HZ.out, HBE.out⟩

end

section
/-
  One block put upon another one; the walks of the block statements' first look, and of 'big'.
-/
open Go.RowKit
set_option linter.unusedVariables false

/-- A row of one. -/
theorem Sl.one {w : World} {p : Nat} {v : Value} (hc : w.cell? ⟨p, 0, none⟩ = some v) : Sl 1 w (.slice (some ⟨p, 0, none⟩) 1 1) [v].length [v] := by
  refine ⟨rfl, _, _, rfl, Nat.le_refl _, by simp [maxLen], fun h => by simp at h, .inr ⟨_, _, rfl, ?_⟩⟩
  intro j u hj
  have : j = 0 := by have := (List.getElem?_eq_some_iff.1 hj).1; simp at this; omega
  subst this
  simp at hj
  subst hj
  exact hc

theorem off_mem1 {q : Nat} {v : Value} (h : Off q v) : ∀ u ∈ [v], Off q u := by
  intro u hu
  simp at hu
  subst hu
  exact h

theorem fit_one {n : Nat} {b : List UInt8} (h : b.length = n) : fitB n [b] = true := by simp [fitB, h]
theorem fit_one_no {n : Nat} {b : List UInt8} (h : b.length ≠ n) : fitB n [b] = false := by simp [fitB, h]

/-- One block, as long, that lies in a row of one. -/
theorem xor_one (q cap p : Nat) (pre post : List Value) (l b : List UInt8) (vb : Value) (w : World) (hB : Blk w q pre l post) (hc : l.length ≤ cap) (hm : cap ≤ maxLen)
    (hp : w.cell? ⟨p, 0, none⟩ = some vb) (hb : Bs w vb b) (hpq : p ≠ q) (ho : Off q vb) (hlen : b.length = l.length) (n off : Nat) (hn : n = l.length) (hoff : off = pre.length) :
    Calls Try.prog 49 #[.slice (some ⟨q, off, none⟩) n cap, .slice (some ⟨p, 0, none⟩) 1 1] w fun e w' => e = .returned (.bool true) ∧ Blk w' q pre (xorL l b) post ∧ w.grownBy w' (some q) ∧ w'.heap.size = w.heap.size := by
  subst hn; subst hoff
  exact xor_yes q cap pre post l _ [vb] [b] w hB hc hm (Sl.one hp) (parts_one hb) (off_at hpq) (off_mem1 ho) (fit_one hlen)

/-- One block, as long, whose row was just laid. -/
theorem xor_top (q cap : Nat) (pre post : List Value) (l b : List UInt8) (vb : Value) (w : World) (hB : Blk w q pre l post) (hc : l.length ≤ cap) (hm : cap ≤ maxLen)
    (hb : Bs w vb b) (ho : Off q vb) (hlen : b.length = l.length) (n off r : Nat) (hn : n = l.length) (hoff : off = pre.length) (hr : r = w.heap.size) :
    Calls Try.prog 49 #[.slice (some ⟨q, off, none⟩) n cap, .slice (some ⟨r, 0, none⟩) 1 1] (w.alloc (.cells #[vb] 38)) fun e w' => e = .returned (.bool true) ∧ Blk w' q pre (xorL l b) post ∧ w.grownBy w' (some q) ∧ w'.heap.size = w.heap.size + 1 := by
  subst hr
  have hlt := hB.lt
  refine (xor_one q cap w.heap.size pre post l b vb _ (hB.below (below_alloc _ _)) hc hm (by rw [World.cell?_alloc_new]; rfl) (hb.below (below_alloc _ _)) (by omega) ho hlen n off hn hoff).mono ?_
  rintro e w' ⟨rfl, h1, h2, h3⟩
  exact ⟨rfl, h1, (World.grownBy_alloc _ _ _).trans h2, by rw [h3]; simp⟩

/-- Xor of one that isn't as long, whose row was just laid. -/
theorem xor_top_no (a0 : Option Addr) (n cap : Nat) (b : List UInt8) (vb : Value) (w : World) (hb : Bs w vb b) (hlen : b.length ≠ n) (r : Nat) (hr : r = w.heap.size) :
    Calls Try.prog 49 #[.slice a0 n cap, .slice (some ⟨r, 0, none⟩) 1 1] (w.alloc (.cells #[vb] 38)) fun e w' => e = .returned (.bool false) ∧ Below w.heap.size w w' := by
  subst hr
  refine (xor_no a0 n cap _ [vb] [b] _ (Sl.one (by rw [World.cell?_alloc_new]; rfl)) (parts_one (hb.below (below_alloc _ _))) (fit_one_no hlen)).mono ?_
  rintro e w' ⟨rfl, rfl⟩
  exact ⟨rfl, below_alloc _ _⟩


end

section
/-
  compose: which blocks are put upon each other, and what that is: mathematics.
-/
open Go.RowKit
set_option linter.unusedVariables false

/-- Blocks by their numbers. -/
def pkD (ls : List (List UInt8)) (of : List Int) : List (List UInt8) := of.map fun i => ls.getD i.toNat []
/-- They, put upon each other. -/
def chkD (n : Nat) (ls : List (List UInt8)) (of : List Int) : List UInt8 := xorAll (zeros n) (pkD ls of)
/-- There is such a block, and it is as long. -/
def OkAt (n : Nat) (ls : List (List UInt8)) (i : Int) : Prop := ∃ (k : Nat) (x : List UInt8), i = (k : Int) ∧ ls[k]? = some x ∧ x.length = n
def OkOf (n : Nat) (ls : List (List UInt8)) (of : List Int) : Prop := ∀ i ∈ of, OkAt n ls i

theorem pkD_length (ls : List (List UInt8)) (of : List Int) : (pkD ls of).length = of.length := by simp [pkD]
theorem pkD_fit {n : Nat} {ls : List (List UInt8)} {of : List Int} (h : OkOf n ls of) : ∀ x ∈ pkD ls of, x.length = n := by
  intro x hx
  obtain ⟨i, hi, rfl⟩ := List.mem_map.1 hx
  obtain ⟨k, y, rfl, hy, hl⟩ := h i hi
  simp [List.getD, hy, hl]
theorem pkD_fitB {n : Nat} {ls : List (List UInt8)} {of : List Int} (h : OkOf n ls of) : fitB n (pkD ls of) = true := fitB_of (pkD_fit h)
theorem chkD_length {n : Nat} {ls : List (List UInt8)} {of : List Int} (h : OkOf n ls of) : (chkD n ls of).length = n := by
  unfold chkD
  rw [xorAll_length (by rw [zeros_length]; exact pkD_fit h), zeros_length]
theorem chkD_nil (n : Nat) (ls : List (List UInt8)) : chkD n ls [] = zeros n := rfl
theorem chkD_next {n : Nat} {ls : List (List UInt8)} {of : List Int} {i k : Nat} {x : List UInt8} (hi : i < of.length) (hk : of[i] = (k : Int)) (hx : ls[k]? = some x) : chkD n ls (of.take (i + 1)) = xorL (chkD n ls (of.take i)) x := by
  unfold chkD pkD
  rw [List.take_succ_eq_append_getElem hi, List.map_append, xorAll_append]
  simp [xorAll, hk, List.getD, hx]
theorem OkOf.take {n : Nat} {ls : List (List UInt8)} {of : List Int} (h : OkOf n ls of) (k : Nat) : OkOf n ls (of.take k) := fun i hi => h i (List.mem_of_mem_take hi)
theorem pkD_append {ls ms : List (List UInt8)} {of : List Int} (h : ∀ i ∈ of, 0 ≤ i ∧ i < (ls.length : Int)) : pkD (ls ++ ms) of = pkD ls of := by
  unfold pkD
  refine List.map_congr_left fun i hi => ?_
  have := h i hi
  simp only [List.getD]
  rw [List.getElem?_append_left (by omega)]
theorem okOf_append {n : Nat} {ls ms : List (List UInt8)} {of : List Int} (h : OkOf n ls of) : OkOf n (ls ++ ms) of := by
  intro i hi
  obtain ⟨k, x, rfl, hx, hl⟩ := h i hi
  exact ⟨k, x, rfl, by rw [List.getElem?_append_left (List.getElem?_eq_some_iff.1 hx).1]; exact hx, hl⟩
theorem okOf_below {n : Nat} {ls : List (List UInt8)} {of : List Int} (hl : ∀ x ∈ ls, x.length = n) (h : ∀ i ∈ of, 0 ≤ i ∧ i < (ls.length : Int)) : OkOf n ls of := by
  intro i hi
  have h1 := h i hi
  have h2 : i.toNat < ls.length := by omega
  exact ⟨i.toNat, ls[i.toNat], by omega, List.getElem?_eq_getElem h2, hl _ (List.getElem_mem h2)⟩

/-- The first that can't be, if there is one. -/
theorem first_bad {n : Nat} {ls : List (List UInt8)} : ∀ {of : List Int}, ¬ OkOf n ls of → ∃ (j : Nat) (hj : j < of.length), OkOf n ls (of.take j) ∧ ¬ OkAt n ls of[j]
  | [], h => absurd (fun i hi => by simp at hi) h
  | i :: r, h => by
    by_cases hi : OkAt n ls i
    · have : ¬ OkOf n ls r := fun hr => h (by
        intro k hk
        rcases List.mem_cons.1 hk with rfl | hk
        · exact hi
        · exact hr k hk)
      obtain ⟨j, hj, h1, h2⟩ := first_bad this
      refine ⟨j + 1, by simp; omega, ?_, by simpa using h2⟩
      intro k hk
      rw [List.take_succ_cons] at hk
      rcases List.mem_cons.1 hk with rfl | hk
      · exact hi
      · exact h1 k hk
    · exact ⟨0, by simp, fun k hk => by simp at hk, by simpa using hi⟩

end

end Go.Proofs.Ytkckbeekehecnaa
