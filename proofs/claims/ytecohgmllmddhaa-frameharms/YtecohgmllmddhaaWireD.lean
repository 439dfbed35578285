/-
  The walks of package wire, fourth part: Append.
-/
import Derived.Test.YtecohgmllmddhaaWireM
namespace Go.Proofs.Ytecohgmllmddhaa
open Go.RowKit
set_option linter.unusedVariables false

/-- One append behind the Writer's field, no block laid ahead of it. -/
theorem wr_step0 {wr w2 : World} {base b N M cap c1 : Nat} {ao a1 : Option Addr} {row' : Option Nat} {T : List UInt8}
    (hf : wr.frozen? ⟨b, 0, none⟩ = false) (hbb : base ≤ b) (hrb : row' ≠ some b) (hc : wr.cell? ⟨b, 0, none⟩ = some (.slice ao N cap)) (hbl : b < wr.heap.size)
    (hM : M = T.length) (ho : w2.ownsRow base 5 1 (.slice a1 M c1) M (T.map bv)) (hgrow : wr.grownBy w2 (Value.slice ao N cap).ownBlock)
    (hnc : M ≤ c1) (hcm : c1 ≤ maxLen) {hrw : (Value.slice ao N cap).ownBlock = row'} {hat : (Value.slice a1 M c1).ownBlock = (Value.slice ao N cap).ownBlock ∨ (Value.slice a1 M c1).ownBlock = some wr.heap.size} :
    ∃ row2, IsWr (w2.setCell ⟨b, 0, none⟩ (.slice a1 M c1)) base b row2 T ∧ Fr wr (w2.setCell ⟨b, 0, none⟩ (.slice a1 M c1)) b row' ∧ (row2 = row' ∨ ∃ k, row2 = some k ∧ wr.heap.size ≤ k) := by
  have hcb : w2.cell? ⟨b, 0, none⟩ = wr.cell? ⟨b, 0, none⟩ := hgrow.cell_far ⟨b, 0, none⟩ hbl (by rw [hrw]; exact Ne.symm hrb)
  have hfb : w2.frozen? ⟨b, 0, none⟩ = false := by
    rw [hgrow.frozen_far ⟨b, 0, none⟩ hbl (by rw [hrw]; exact Ne.symm hrb)]
    exact hf
  have hnb : (Value.slice a1 M c1).ownBlock ≠ some b := by
    rcases hat with e | e
    · rw [e, hrw]; exact hrb
    · rw [e]; intro e; injection e with e; omega
  have hs := grown_setCell w2 b 0 (.slice a1 M c1)
  subst hM
  refine ⟨(Value.slice a1 T.length c1).ownBlock, ⟨by simpa using hfb, hbb, hnb, a1, c1, ?_, ho.kept hs (.inr hnb), rfl, hnc, hcm⟩, ?_, ?_⟩
  · exact World.cell?_setCell_same w2 _ _ (hcb.trans hc)
  · refine ⟨hgrow.os, hgrow.tape, hgrow.output, ?_, ?_⟩
    · have := hgrow.size
      have := hs.size
      omega
    · intro k hk hkb hkr
      rw [hs.block k (by have := hgrow.size; omega) (by intro e; injection e with e; exact hkb e)]
      exact hgrow.block k (by omega) (by rw [hrw]; exact hkr)
  · rcases hat with e | e
    · exact .inl (e.trans hrw)
    · exact .inr ⟨_, e, by omega⟩

theorem flat_len (ps : List (List UInt8)) (B : Nat) (h : ∀ p ∈ ps, p.length ≤ B) : ps.flatten.length ≤ ps.length * B := by
  induction ps with
  | nil => simp
  | cons p ps ih =>
    have h1 := h p (by simp)
    have h2 := ih (fun q hq => h q (by simp [hq]))
    simp only [List.flatten_cons, List.length_append, List.length_cons, Nat.add_mul, Nat.one_mul]
    omega

set_option maxRecDepth 100000 in
set_option maxHeartbeats 1000000 in
/-- Append. -/
theorem append_any (base b : Nat) (row : Option Nat) (l : List UInt8) (pv : Value) (vs : List Value) (ps : List (List UInt8)) (w : World) (hw : IsWr w base b row l) (hbase : base ≤ w.heap.size)
    (hst : ∀ W, Fr w W b row → Sl 1 W pv vs.length vs ∧ Parts W vs ps) (hl2 : l.length ≤ 100000) (hn50 : vs.length ≤ 10) (hp : ∀ p ∈ ps, p.length ≤ 10000) :
    Calls Try.prog 52 #[.pointer (some ⟨b, 0, none⟩), pv] w fun e w' => e = .returned (.tuple #[]) ∧ ∃ row', IsWr w' base b row' (l ++ ps.flatten) ∧ Fr w w' b row ∧ (row' = row ∨ ∃ k, row' = some k ∧ w.heap.size ≤ k) := by
  obtain ⟨i0, hi, hz0, hz1, hz2⟩ := info_parts Try.info5
  have HW : Hid (IsWr w base b row l) := hw
  have HS : Hid (∀ W, Fr w W b row → Sl 1 W pv vs.length vs ∧ Parts W vs ps) := hst
  have h0 := (hst w (Fr.refl _ _ _)).1
  have HL : Hid (vs.length = ps.length) := (hst w (Fr.refl _ _ _)).2.1
  have HP : Hid (∀ p ∈ ps, p.length ≤ 10000) := hp
  clear hw hst hp
  obtain ⟨hl1, a0, c0, rfl, hc0, hm0, _, hcell⟩ := h0
  clear hl1
  unfold maxLen at hm0
  obtain ⟨n, hn⟩ : ∃ n, vs.length = n := ⟨_, rfl⟩
  rw [hn] at hn50 hc0 hcell ⊢
  have Hn : Hid (vs.length = n) := hn
  have HSn : Hid (∀ W, Fr w W b row → Sl 1 W (.slice a0 n c0) vs.length vs ∧ Parts W vs ps) := by rw [hn] at HS; rw [hn]; exact HS
  clear hn HS
  go_enter Try.func52, Try.ntmps52
  go_wp2
  go_loopw [8] (fun i wr => ∃ (k : Nat) (row' : Option Nat), k ≤ n ∧ i = .int .i64 k ∧ IsWr wr base b row' (l ++ (ps.take k).flatten) ∧ Fr w wr b row ∧ (row' = row ∨ ∃ k, row' = some k ∧ w.heap.size ≤ k)) (fun i _ => n - (intOf i).toNat)
  case atStart => exact ⟨0, row, by omega, rfl, by simpa using HW.out, Fr.refl _ _ _, .inl rfl⟩
  case round =>
    obtain ⟨k, row', hk, rfl, hwr, hfr, hrow⟩ := hrel
    have HR : Hid (Fr w wr b row ∧ (row' = row ∨ ∃ k, row' = some k ∧ w.heap.size ≤ k)) := ⟨hfr, hrow⟩
    clear hfr hrow
    by_cases hlt : k < n
    · rcases hcell with hz | ⟨pb, po, rfl, hcl⟩
      · omega
      clear hcl
      have hkv : k < vs.length := by rw [Hn.out]; exact hlt
      have hkp : k < ps.length := by rw [← HL.out]; exact hkv
      obtain ⟨hs1, hs2⟩ := HSn.out wr HR.out.1
      have hbk := hs2.2 k vs[k] ps[k] (List.getElem?_eq_getElem hkv) (List.getElem?_eq_getElem hkp)
      have hck : wr.cell? ⟨pb, po + k, none⟩ = some vs[k] := by
        obtain ⟨_, a', c', hv', _, _, _, h5⟩ := hs1
        injection hv' with e1 _ _
        rcases h5 with h5 | ⟨b', off', e2, h5⟩
        · omega
        · rw [e2] at e1
          obtain ⟨rfl, rfl⟩ : pb = b' ∧ po = off' := by injection Option.some.inj e1 with e1 e2 _; exact ⟨e1, e2⟩
          exact h5 k _ (List.getElem?_eq_getElem hkv)
      have hp100 := HP.out ps[k] (List.getElem_mem hkp)
      have hfl : (ps.take k).flatten.length ≤ k * 10000 := by
        have h := flat_len (ps.take k) 10000 (fun p hp => HP.out p (List.mem_of_mem_take hp))
        simp at h ⊢
        have : min k ps.length * 10000 ≤ k * 10000 := Nat.mul_le_mul_right _ (Nat.min_le_left _ _)
        omega
      have hT : Hid (l ++ (ps.take (k + 1)).flatten = (l ++ (ps.take k).flatten) ++ ps[k]) := by
        unfold Hid
        rw [flat_next hkp, List.append_assoc]
      obtain ⟨hf, hbb, hrb, ao, cap, hc, hown, hrw, hcap, hcm⟩ := hwr
      unfold maxLen at hcm
      have hbl : b < wr.heap.size := cell_block_lt hc
      have hbw : base ≤ wr.heap.size := by have := HR.out.1.size; omega
      have hTl : (l ++ (ps.take k).flatten).length ≤ 200000 := by rw [List.length_append]; omega
      obtain ⟨_, pao, pc, hv, hp2, hp3, _, _⟩ := id hbk
      unfold maxLen at hp3
      rw [hv] at hck hbk
      have HB : Hid (Bs wr (.slice pao ps[k].length pc) ps[k]) := hbk
      clear hv hbk hs1 hs2 hfl
      generalize ps[k] = p at *
      generalize l ++ (ps.take k).flatten = T at *
      go_wp2_with (at_builtin; (refine wpList_app _ rfl (.tmp 16) (.tmp 17) 27 rfl base 5 i0 (.int .u8 0) 1 1 Try.underlying27 hi hz0 hz1 hz2 rfl (by decide) (.slice ao T.length cap) T.length (T.map bv) rfl hown (.slice pao p.length pc) p.length (p.map bv) rfl HB.out (bv_oneCell _) (by unfold maxLen; omega) (by omega) hbw ?_; intro a1 c1 w2 ho hgrow hat hne2 hnc2 hcm2; have q1 := (hgrow.cell_far ⟨b, 0, none⟩ hbl (by rw [hrw]; exact Ne.symm hrb)); have q2 := (hgrow.frozen_far ⟨b, 0, none⟩ hbl (by rw [hrw]; exact Ne.symm hrb))))
      go_roundw
      case rel =>
        rw [← List.map_append] at ho
        have R := wr_step0 (hat := hat) (hrw := hrw) hf hbb hrb hc hbl (by simp) ho hgrow hnc2 hcm2
        rw [← hT.out] at R
        obtain ⟨row2, R1, R2, R3⟩ := R
        have R4 := fr_trans HR.out.1 HR.out.2 R2 R3
        exact ⟨k + 1, row2, by omega, by go_num, R1, R4.1, R4.2⟩
      case measure => simp [intOf]; omega
    · go_wp2
      go_end0
      have e : ps.take k = ps := List.take_of_length_le (by rw [← HL.out, Hn.out]; omega)
      rw [e] at hwr
      exact ⟨rfl, row', hwr, HR.out⟩

end Go.Proofs.Ytecohgmllmddhaa
