/-
  The walks of package block, second part: Xor, Sum, Zero.
-/
import Derived.Test.YtofbklabapmdcaaBlkA
namespace Go.Proofs.Ytofbklabapmdcaa
open Go.RowKit
set_option linter.unusedVariables false

theorem all_fit (n : Nat) (ls : List (List UInt8)) : (ls.all fun l => decide ((l.length : Int) = (n : Int))) = fitB n ls := by
  unfold fitB
  congr 1
  funext l
  rw [Bool.eq_iff_iff]
  simp
  omega

set_option maxRecDepth 100000 in
set_option maxHeartbeats 400000 in
/-- Xor where all are as long: all are put; nothing else is turned. -/
theorem xor_yes (q cap : Nat) (pre post : List Value) (l : List UInt8) (pv : Value) (vs : List Value) (ls : List (List UInt8)) (w : World) (hB : Blk w q pre l post) (hc : l.length ≤ cap) (hm : cap ≤ maxLen)
    (hp : Sl 1 w pv vs.length vs) (hps : Parts w vs ls) (hop : Off q pv) (hos : ∀ v ∈ vs, Off q v) (hf : fitB l.length ls = true) :
    Calls Try.prog 26 #[.slice (some ⟨q, pre.length, none⟩) l.length cap, pv] w fun e w' => e = .returned (.bool true) ∧ Blk w' q pre (xorAll l ls) post ∧ w.grownBy w' (some q) ∧ w'.heap.size = w.heap.size := by
  have HM : Hid (cap ≤ maxLen) := hm
  unfold maxLen at hm
  have HP : Hid (Sl 1 w pv vs.length vs) := hp
  obtain ⟨_, ao, pc, rfl, h2, h3, _, _⟩ := hp
  unfold maxLen at h3
  have HPS : Hid (Parts w vs ls) := hps
  have HF : Hid (∀ x ∈ ls, x.length = l.length) := fun x hx => fitB_mem hf hx
  obtain ⟨m, hm'⟩ : ∃ m, vs.length = m := ⟨_, rfl⟩
  have Hm : Hid (vs.length = m) := hm'
  have Hl : Hid (ls.length = m) := by have := hps.1; unfold Hid; omega
  have HA := allHave_any (l.length : Int) _ vs ls w HP.out hps
  rw [all_fit, hf] at HA
  rw [hm'] at h2 HP hop HA ⊢
  have HA' : Hid (Calls Try.prog 29 #[.int .i64 l.length, .slice ao m pc] w fun e w' => e = .returned (.bool true) ∧ w' = w) := HA
  have HOP : Hid (Off q (.slice ao m pc)) := hop
  have HOS : Hid (∀ v ∈ vs, Off q v) := hos
  have HB : Hid (Blk w q pre l post) := hB
  clear HA hf hps hop hos hB hm'
  obtain ⟨n, hn⟩ : ∃ n, l.length = n := ⟨_, rfl⟩
  rw [hn] at hc HA' ⊢
  have Hn : Hid (l.length = n) := hn
  clear hn
  go_enter Try.func26, Try.ntmps26
  go_wp2_with fail
  refine HA'.out.mono ?_
  rintro e w1 ⟨rfl, rfl⟩
  go_wp2
  go_loopw [14] (fun i wr => ∃ k : Nat, k ≤ m ∧ i = .int .i64 k ∧ Blk wr q pre (xorAll l (ls.take k)) post ∧ w1.grownBy wr (some q) ∧ wr.heap.size = w1.heap.size) (fun i _ => m - (intOf i).toNat)
  case atStart => exact ⟨0, by omega, rfl, HB.out, World.grownBy.refl _ _, rfl⟩
  case round =>
    obtain ⟨k, hk, rfl, hbl, hgr, hsz⟩ := hrel
    have HG : Hid (w1.grownBy wr (some q) ∧ wr.heap.size = w1.heap.size) := ⟨hgr, hsz⟩
    have HW : Hid (Blk wr q pre (xorAll l (ls.take k)) post) := hbl
    clear hbl hgr hsz
    have HXL : Hid ((xorAll l (ls.take k)).length = n) := by
      unfold Hid
      rw [xorAll_length (fun x hx => HF.out x (List.mem_of_mem_take hx)), Hn.out]
    by_cases hlt : k < m
    · have hkv : k < vs.length := by rw [Hm.out]; exact hlt
      have hkl : k < ls.length := by rw [Hl.out]; exact hlt
      obtain ⟨_, a', c', hv, _, _, _, h5⟩ := HP.out.off HOP.out (grown_ne HG.out.1)
      injection hv with e1 e1b e1c
      subst e1
      rcases h5 with h0 | ⟨b, off, e2, hc2⟩
      · omega
      subst e2
      have hck := hc2 k vs[k] (List.getElem?_eq_getElem hkv)
      have hbk := (HPS.out.2 k vs[k] ls[k] (List.getElem?_eq_getElem hkv) (List.getElem?_eq_getElem hkl)).off (HOS.out _ (List.getElem_mem hkv)) HG.out.1
      have HBK : Hid (Bs wr vs[k] ls[k]) := hbk
      have HLK : Hid (ls[k].length = n) := by have := HF.out ls[k] (List.getElem_mem hkl); unfold Hid; rw [this, Hn.out]
      have HOK : Hid (Off q vs[k]) := HOS.out _ (List.getElem_mem hkv)
      have HNX : Hid (xorL (xorAll l (ls.take k)) ls[k] = xorAll l (ls.take (k + 1))) := xorAll_next hkl
      clear hc2 e1b e1c hbk
      generalize vs[k] = v at *
      generalize ls[k] = x at *
      generalize xorAll l (ls.take k) = y at *
      go_wp2_with fail
      rw [← HXL.out]
      refine (put_any q cap pre post y x v _ HW.out (by rw [HXL.out]; exact hc) HM.out HBK.out (by rw [HLK.out, HXL.out]) HOK.out).mono ?_
      rintro e w2 ⟨rfl, hb2, hg2, hs2⟩
      rw [HXL.out]
      have H2 : Hid (Blk w2 q pre (xorAll l (ls.take (k + 1))) post ∧ w1.grownBy w2 (some q) ∧ w2.heap.size = w1.heap.size) := ⟨by rw [← HNX.out]; exact hb2, HG.out.1.trans hg2, hs2.trans HG.out.2⟩
      clear hb2 hg2 hs2
      go_wp2
      go_roundw
      case rel => exact ⟨k + 1, by omega, by go_num, H2.out⟩
      case measure => simp [intOf]; omega
    · go_wp2
      go_ret
      refine ⟨rfl, ?_, HG.out⟩
      have h := HW.out
      rw [List.take_of_length_le (by rw [Hl.out]; omega)] at h
      exact h

set_option maxRecDepth 100000 in
set_option maxHeartbeats 400000 in
/-- Xor where one isn't as long: nothing is done. -/
theorem xor_no (a0 : Option Addr) (n cap : Nat) (pv : Value) (vs : List Value) (ls : List (List UInt8)) (w : World) (hp : Sl 1 w pv vs.length vs) (hps : Parts w vs ls) (hf : fitB n ls = false) :
    Calls Try.prog 26 #[.slice a0 n cap, pv] w fun e w' => e = .returned (.bool false) ∧ w' = w := by
  have HA := allHave_any (n : Int) _ vs ls w hp hps
  rw [all_fit, hf] at HA
  have HA' : Hid (Calls Try.prog 29 #[.int .i64 n, pv] w fun e w' => e = .returned (.bool false) ∧ w' = w) := HA
  clear HA hf hps
  obtain ⟨-, ao, pc, rfl, -, -, -, -⟩ := hp
  go_enter Try.func26, Try.ntmps26
  go_wp2_with fail
  refine HA'.out.mono ?_
  rintro e w1 ⟨rfl, rfl⟩
  go_wp2
  go_ret
  exact ⟨rfl, rfl⟩

theorem made_blk {w2 : World} {base q n : Nat} (ho : w2.ownsRow base 5 1 (.slice (some ⟨q, 0, none⟩) n n) n (madeCells (Value.int .u8 0).cells (n * 1)).toList) : Blk w2 q [] (zeros n) [] := by
  simp only [Value.cells, Nat.mul_one, toList_madeCells_one] at ho
  have e : List.replicate n (Value.int .u8 0) = (zeros n).map bv := by simp [zeros, bv]
  rw [e] at ho
  obtain ⟨_, post, hb, hl⟩ := owned_blk ho
  have : post = [] := List.eq_nil_of_length_eq_zero (by omega)
  subst this
  exact hb

/-- What was there stays, where something new alone is written. -/
theorem Sl.new {size : Nat} {w w' : World} {v : Value} {n : Nat} {cs : List Value} (h : Sl size w v n cs) (hg : w.grownBy w' none) : Sl size w' v n cs :=
  h.carry fun _ _ hp => hg.cell hp (by simp)

theorem below_new {w w' : World} (hg : w.grownBy w' none) : Below w.heap.size w w' := (Below.refl _ _).grown hg (Nat.le_refl _) (by intro k hk; cases hk)

/-- A call that writes one new block alone. -/
theorem below_grown {B : Nat} {w w1 w2 : World} {q : Nat} (hb : Below B w w1) (hg : w1.grownBy w2 (some q)) (hB : B ≤ w1.heap.size) (hq : B ≤ q) : Below B w w2 :=
  hb.grown hg hB (fun k hk => by injection hk with hk; omega)

set_option maxRecDepth 100000 in
set_option maxHeartbeats 400000 in
/-- Sum where all are as long: a new block. -/
theorem sum_yes (n : Nat) (pv : Value) (vs : List Value) (ls : List (List UInt8)) (w : World) (hn : n ≤ 16777216) (hp : Sl 1 w pv vs.length vs) (hps : Parts w vs ls) (hf : fitB n ls = true) :
    Calls Try.prog 28 #[.int .i64 n, pv] w fun e w' => e = .returned (.tuple #[.slice (some ⟨w.heap.size, 0, none⟩) n n, .bool true]) ∧ Blk w' w.heap.size [] (xorAll (zeros n) ls) [] ∧ Below w.heap.size w w' := by
  obtain ⟨i0, hi, hz0, hz1, hz2⟩ := info_parts Try.infoByte
  have HP : Hid (Sl 1 w pv vs.length vs) := hp
  obtain ⟨-, ao, pc, rfl, -, -, -, -⟩ := hp
  have HPS : Hid (Parts w vs ls) := hps
  have HF : Hid (fitB n ls = true) := hf
  clear hps hf
  go_enter Try.func28, Try.ntmps28
  go_wp2_with (at_make; refine wpList_make_full _ rfl _ _ 28 rfl w.heap.size 5 i0 (.int .u8 0) 1 Try.underlying28 hi hz0 hz1 _ _ _ _ n rfl rfl rfl rfl (by rw [hz2]; omega) (by unfold maxLen; omega) (Nat.le_refl _) ?_; intro w2 ho hgrow)
  have HB : Hid (Blk w2 w.heap.size [] (zeros n) []) := made_blk ho
  have HX : Hid (Below w.heap.size w w2) := below_new hgrow
  clear ho hgrow
  have hx := xor_yes w.heap.size n [] [] (zeros n) _ vs ls w2 HB.out (by rw [zeros_length]; exact Nat.le_refl _) (by unfold maxLen; omega) (HP.out.below HX.out) (HPS.out.below HX.out)
    (Sl.off_new HP.out (by omega) (Nat.le_refl _)) (HPS.out.off_new (Nat.le_refl _)) (by rw [zeros_length]; exact HF.out)
  rw [zeros_length] at hx
  refine hx.mono ?_
  rintro e w3 ⟨rfl, hb3, hg3, hs3⟩
  have H3 : Hid (Blk w3 w.heap.size [] (xorAll (zeros n) ls) [] ∧ Below w.heap.size w w3) := ⟨hb3, below_grown HX.out hg3 HX.out.size (Nat.le_refl _)⟩
  clear hb3 hg3 hs3 hx
  go_wp2
  go_ret2
  exact ⟨rfl, H3.out⟩

set_option maxRecDepth 100000 in
set_option maxHeartbeats 400000 in
/-- Sum where the size can't be, or one isn't as long: none. -/
theorem sum_no (n : Int) (pv : Value) (vs : List Value) (ls : List (List UInt8)) (w : World) (hp : Sl 1 w pv vs.length vs) (hps : Parts w vs ls) (hf : n < 0 ∨ 16777216 < n ∨ fitB n.toNat ls = false) :
    Calls Try.prog 28 #[.int .i64 n, pv] w fun e w' => e = .returned (.tuple #[.slice none 0 0, .bool false]) ∧ Below w.heap.size w w' := by
  obtain ⟨i0, hi, hz0, hz1, hz2⟩ := info_parts Try.infoByte
  have HP : Hid (Sl 1 w pv vs.length vs) := hp
  obtain ⟨-, ao, pc, rfl, -, -, -, -⟩ := hp
  have HPS : Hid (Parts w vs ls) := hps
  clear hps
  by_cases h0 : n < 0
  · clear hf
    go_enter Try.func28, Try.ntmps28
    go_wp2
    go_ret2
    exact ⟨rfl, Below.refl _ _⟩
  by_cases h1 : 16777216 < n
  · clear hf
    have h0' : 0 ≤ n := by omega
    clear h0
    go_enter Try.func28, Try.ntmps28
    go_wp2
    go_ret2
    exact ⟨rfl, Below.refl _ _⟩
  obtain ⟨m, rfl⟩ := Int.eq_ofNat_of_zero_le (show 0 ≤ n by omega)
  have hm : m ≤ 16777216 := by omega
  have HF : Hid (fitB m ls = false) := by
    rcases hf with h | h | h
    · omega
    · omega
    · exact h
  clear hf h0 h1
  go_enter Try.func28, Try.ntmps28
  go_wp2_with (at_make; refine wpList_make_full _ rfl _ _ 28 rfl w.heap.size 5 i0 (.int .u8 0) 1 Try.underlying28 hi hz0 hz1 _ _ _ _ m rfl rfl rfl rfl (by rw [hz2]; omega) (by unfold maxLen; omega) (Nat.le_refl _) ?_; intro w2 ho hgrow)
  have HX : Hid (Below w.heap.size w w2) := below_new hgrow
  clear ho hgrow
  refine (xor_no _ m m _ vs ls w2 (HP.out.below HX.out) (HPS.out.below HX.out) HF.out).mono ?_
  rintro e w3 ⟨rfl, rfl⟩
  go_wp2
  go_ret2
  exact ⟨rfl, HX.out⟩

set_option maxHeartbeats 400000 in
/-- Zero: it only reads. -/
theorem zero_any (v : Value) (l : List UInt8) (w : World) (hl : Bs w v l) : Calls Try.prog 27 #[v] w fun e w' => e = .returned (.bool (zeroB l)) ∧ w' = w := by
  obtain ⟨-, ao, cap, rfl, h2, h3, -, h5⟩ := hl
  unfold maxLen at h3
  obtain ⟨n, hn⟩ : ∃ n, l.length = n := ⟨_, rfl⟩
  rw [hn] at h2 h5 ⊢
  have Hn : Hid (l.length = n) := hn
  clear hn
  go_enter Try.func27, Try.ntmps27
  go_wp2
  go_loop [7] (fun i => ∃ k : Nat, k ≤ n ∧ i = .int .i64 k ∧ zeroB l = zeroB (l.drop k)) (fun i => n - (intOf i).toNat)
  case atStart => exact ⟨0, by omega, rfl, rfl⟩
  case round =>
    obtain ⟨k, hk, rfl, he⟩ := hrel
    have HE : Hid (zeroB l = zeroB (l.drop k)) := he
    clear he
    by_cases hlt : k < n
    · have hkl : k < l.length := by rw [Hn.out]; exact hlt
      rcases h5 with h0 | ⟨b, off, rfl, hc⟩
      · omega
      have hck := hc k _ (map_bv_at l k hkl)
      have HD : Hid (zeroB (l.drop k) = (l[k] == 0 && zeroB (l.drop (k + 1)))) := by
        unfold Hid
        rw [List.drop_eq_getElem_cons hkl]
        rfl
      clear hc
      generalize l[k] = x at *
      by_cases hx : x = 0
      · subst hx
        go_wp2
        go_round
        case rel => exact ⟨k + 1, by omega, by go_num, by rw [HE.out, HD.out]; simp⟩
        case measure => simp [intOf]; omega
      · have hx' : ((x.toNat : Int) == 0) = false := by
          have : x.toNat ≠ 0 := fun h => hx (UInt8.toNat_inj.1 (by simpa using h))
          simp
          omega
        go_wp2
        go_ret
        exact ⟨ret_bool (by rw [HE.out, HD.out]; simp [hx]), rfl⟩
    · go_wp2
      go_ret
      exact ⟨ret_bool (by rw [HE.out, List.drop_eq_nil_of_le (by rw [Hn.out]; omega)]; rfl), rfl⟩

end Go.Proofs.Ytofbklabapmdcaa
