/-
  The walk of the statement WireParts.
-/
import Derived.Test.YtjbgfgpclkabjaaWrites
namespace Go.Proofs.Ytjbgfgpclkabjaa
open Go.RowKit
set_option linter.unusedVariables false

/-- An append at a step of a region that draws its order, behind a guard that says yes. -/
theorem step_app_g {P : Program} (w : World) {ops : Array Oper} {o : Oper} {a : Act} {K : Act → World → Prop} {Q : Exit → Act → World → Prop} {E : Prop} (hw : Region.wanted o (yielded ops a.tmps) = true) (s x : Operand) (t : TypeId)
    (ho : o.op = .call { callee := .builtin .append, args := #[s, x], argTypes := #[t, t] })
    (base : Nat) (e : TypeId) (i : TypeInfo) (z : Value) (size bytes : Nat) (ht : P.underlying t = some (.slice e)) (hi : P.info? e = some i) (hz : i.zero = some z)
    (hsize : i.size = size) (hby : i.bytes = bytes) (hzs : z.cells.size = size) (hsz : 0 < size)
    (v : Value) (n : Nat) (xs : List Value) (hs : a.eval s = v) (hown : w.ownsRow base e size v n xs)
    (xv : Value) (m : Nat) (news : List Value) (hx : a.eval x = xv) (hsrc : Sl size w xv m news) (h1 : ∀ u ∈ news, u.oneCell' = true)
    (h63 : n + m ≤ maxLen) (hbytes : (n + m) * bytes ≤ 140737488355328) (hbase : base ≤ w.heap.size)
    (h : ∀ ao cap w', w'.ownsRow base e size (.slice ao (n + m) cap) (n + m) (xs ++ news) → w.grownBy w' v.ownBlock → ((Value.slice ao (n + m) cap).ownBlock = v.ownBlock ∨ (Value.slice ao (n + m) cap).ownBlock = some w.heap.size) → (ao = none → v = .slice none 0 0) → n + m ≤ cap → cap ≤ maxLen → K (a.put o.dst (.slice ao (n + m) cap)) w') :
    if Region.wanted o (yielded ops a.tmps) = true then Oper.wp P o a w K Q else E := by
  rw [if_pos hw]
  exact wp_app w s x t ho base e i z size bytes ht hi hz hsize hby hzs hsz v n xs hs hown xv m news hx hsrc h1 h63 hbytes hbase h

set_option maxRecDepth 100000 in
set_option maxHeartbeats 8000000 in
theorem wparts_walk (v0 : Value) (vs : List Value) (ps : List (List UInt8)) (v1 : Value) (cs : List UInt8) (w : World) (h0 : Sl 1 w v0 vs.length vs) (hps : Parts w vs ps) (h1 : Bs w v1 cs) :
    Calls Try.prog 12 #[v0, v1] w fun e w' => e = .returned (.bool true) ∧ Below w.heap.size w w' := by
  obtain ⟨i0, hi, hz0, hz1, hz2⟩ := info_parts Try.info5
  have B0 := h0
  have B1 := h1
  obtain ⟨hl1, a0, c0, rfl, hc0, hm0, _, hcell⟩ := h0
  obtain ⟨hl2, a1, c1, rfl, hc1, hm1, _, hcell1⟩ := h1
  clear hl1 hl2
  unfold maxLen at hm0 hm1
  have H0 : Hid (Sl 1 w (.slice a0 vs.length c0) vs.length vs) := B0
  have H1 : Hid (Bs w (.slice a1 cs.length c1) cs) := B1
  have HP : Hid (Parts w vs ps) := hps
  have HL : Hid (vs.length = ps.length) := hps.1
  clear B0 B1 hps
  by_cases hA : 30 < vs.length
  · go_enter Try.func12, Try.ntmps12
    go_wp2_with fail
    refine (speaks2_any w).mono ?_
    rintro e w1 ⟨rfl, hb1⟩
    have X1 : Hid (Below w.heap.size w w1) := hb1
    clear hb1
    go_wp2
    go_ret
    exact ⟨rfl, X1.out⟩
  have hA' : vs.length ≤ 30 := by omega
  clear hA
  by_cases hB : 100 < cs.length
  · go_enter Try.func12, Try.ntmps12
    go_wp2_with fail
    refine (speaks2_any w).mono ?_
    rintro e w1 ⟨rfl, hb1⟩
    have X1 : Hid (Below w.heap.size w w1) := hb1
    clear hb1
    go_wp2
    go_ret
    exact ⟨rfl, X1.out⟩
  have hB' : cs.length ≤ 100 := by omega
  clear hB
  obtain ⟨n, hn⟩ : ∃ n, vs.length = n := ⟨_, rfl⟩
  rw [hn] at hA' hc0 hcell ⊢
  have Hn : Hid (vs.length = n) := hn
  have H0' : Hid (Sl 1 w (.slice a0 n c0) vs.length vs) := by rw [hn] at H0; rw [hn]; exact H0
  clear hn H0
  go_enter Try.func12, Try.ntmps12
  go_wp2_with fail
  refine (speaks2_any w).mono ?_
  rintro e w1 ⟨rfl, hb1⟩
  have X1 : Hid (Below w.heap.size w ((w1.alloc (.cells #[.slice none 0 0] 39)).alloc (.cells #[.slice none 0 0] 39))) := (hb1.alloc hb1.size _).alloc (by have := hb1.size; simp; omega) _
  have W1 : Hid (IsWr ((w1.alloc (.cells #[.slice none 0 0] 39)).alloc (.cells #[.slice none 0 0] 39)) w.heap.size w1.heap.size none []) := (zero_wr w1 w.heap.size hb1.size).below ((Below.refl _ _).alloc (Nat.le_refl _) _)
  have W2 : Hid (IsWr ((w1.alloc (.cells #[.slice none 0 0] 39)).alloc (.cells #[.slice none 0 0] 39)) w.heap.size (w1.heap.size + 1) none []) := by
    have h := zero_wr (w1.alloc (.cells #[.slice none 0 0] 39)) w.heap.size (by have := hb1.size; simp; omega)
    rw [World.size_alloc] at h
    exact h
  have D1 : Hid (w1.heap.size ≠ w1.heap.size + 1) := by unfold Hid; omega
  clear hb1
  go_wp2_with fail
  generalize w1.heap.size = b1 at *
  generalize b1 + 1 = b2 at *
  go_loopw [7, 30] (fun v i wr => ∃ (k : Nat) (row : Option Nat), k ≤ n ∧ i = .int .i64 k ∧ IsWr wr w.heap.size b1 none [] ∧ IsWr wr w.heap.size b2 row (ps.take k).flatten ∧ wr.ownsRow w.heap.size 5 1 v (ps.take k).flatten.length ((ps.take k).flatten.map bv) ∧ Below w.heap.size w wr ∧ (∀ q, v.ownBlock = some q → q ≠ b1 ∧ q ≠ b2 ∧ row ≠ some q) ∧ row ≠ some b1 ∧ (∀ p ∈ ps.take k, p.length ≤ 100)) (fun _ i _ => n - (intOf i).toNat)
  case atStart => exact ⟨0, none, by omega, rfl, W1.out, W2.out, World.ownsRow_nil _ _ _ _, X1.out, (fun q hq => by cases hq), by simp, by simp⟩
  case round =>
    obtain ⟨k, row, hk, rfl, hw1, hw2, hown, hbel, hdis, hrb, hp100⟩ := hrel
    have XB : Hid (Below w.heap.size w wr) := hbel
    have W1 : Hid (IsWr wr w.heap.size b1 none []) := hw1
    have W2 : Hid (IsWr wr w.heap.size b2 row (ps.take k).flatten) := hw2
    have DB : Hid ((∀ q, u7.ownBlock = some q → q ≠ b1 ∧ q ≠ b2 ∧ row ≠ some q) ∧ row ≠ some b1) := ⟨hdis, hrb⟩
    have OB : Hid (wr.ownsRow w.heap.size 5 1 u7 (ps.take k).flatten.length ((ps.take k).flatten.map bv)) := hown
    have HP100 : Hid (∀ p ∈ ps.take k, p.length ≤ 100) := hp100
    clear hbel hw1 hw2 hdis hown hrb hp100
    have hfl : (ps.take k).flatten.length ≤ k * 100 := by
      have h := flat_len (ps.take k) 100 HP100.out
      have h2 : (ps.take k).length ≤ k := by simp; omega
      have : (ps.take k).length * 100 ≤ k * 100 := Nat.mul_le_mul_right _ h2
      omega
    by_cases hlt : k < n
    · rcases hcell with hz | ⟨pb, po, rfl, hcl⟩
      · omega
      have hkv : k < vs.length := by rw [Hn.out]; exact hlt
      have hkp : k < ps.length := by rw [← HL.out]; exact hkv
      have hbk := HP.out.2 k vs[k] ps[k] (List.getElem?_eq_getElem hkv) (List.getElem?_eq_getElem hkp)
      have hck : wr.cell? ⟨pb, po + k, none⟩ = some vs[k] := (XB.out.cell (cell_block_lt (hcl k vs[k] (List.getElem?_eq_getElem hkv)))).trans (hcl k vs[k] (List.getElem?_eq_getElem hkv))
      obtain ⟨_, ao, pc, hv, hp2, hp3, _, _⟩ := id hbk
      unfold maxLen at hp3
      rw [hv] at hck hbk
      have HB : Hid (Bs w (.slice ao ps[k].length pc) ps[k]) := hbk
      have hnx : Hid ((ps.take (k + 1)).flatten = (ps.take k).flatten ++ ps[k]) := flat_next hkp
      have hnx2 : Hid (ps.take (k + 1) = ps.take k ++ [ps[k]]) := List.take_succ_eq_append_getElem hkp
      clear hv hcl hbk
      generalize ps[k] = p at *
      generalize hF : (ps.take k).flatten = F at *
      clear hF
      have Hbl : Hid (b2 < wr.heap.size ∧ ∀ j, row = some j → w.heap.size ≤ j ∧ j < wr.heap.size) := W2.out.lt
      have Ol : Hid (∀ q, u7.ownBlock = some q → q < wr.heap.size) := fun q hq => (OB.out.lt q hq).2
      by_cases h100 : 100 < p.length
      · go_wp2
        go_ret
        exact ⟨rfl, XB.out⟩
      have W0 : Hid (IsWr (wr.alloc (.cells #[.slice ao p.length pc] 22)) w.heap.size b2 row F) := W2.out.below ((Below.refl _ _).alloc (Nat.le_refl _) _)
      have X0 : Hid (Below w.heap.size w (wr.alloc (.cells #[.slice ao p.length pc] 22))) := XB.out.alloc XB.out.size _
      have hst : Hid (∀ W, Fr (wr.alloc (.cells #[.slice ao p.length pc] 22)) W b2 row → Sl 1 W (.slice (some ⟨wr.heap.size, 0, none⟩) 1 1) [Value.slice ao p.length pc].length [.slice ao p.length pc] ∧ Parts W [.slice ao p.length pc] [p]) := by
        intro W hW
        have hbW : Below w.heap.size w W := X0.out.trans (hW.wr W0.out X0.out.size)
        refine ⟨?_, parts_one (HB.out.below hbW)⟩
        have hk := hW.block wr.heap.size (by simp) (by have := Hbl.out.1; omega) (by intro e; have := (Hbl.out.2 _ e.symm).2; omega)
        refine ⟨rfl, _, _, rfl, Nat.le_refl _, by simp [maxLen], fun h => by simp at h, .inr ⟨_, _, rfl, ?_⟩⟩
        intro j u hj
        have : j = 0 := by have := (List.getElem?_eq_some_iff.1 hj).1; simp at this; omega
        subst this
        simp at hj
        subst hj
        exact (World.cell?_of_block (a := ⟨wr.heap.size, 0 + 0, none⟩) hk).trans (by simp)
      go_wp2_with fail
      refine (append_any w.heap.size b2 row F _ [.slice ao p.length pc] [p] _ W0.out X0.out.size hst.out (by omega) (by simp) (by intro q hq; simp at hq; rw [hq]; omega)).mono ?_
      rintro e w2 ⟨rfl, row2, hw2, hf2, hr2⟩
      have O2 : Hid (w2.ownsRow w.heap.size 5 1 u7 F.length (F.map bv)) := by
        refine owns_kept (OB.out.alloc (.cells #[.slice ao p.length pc] 22)) (fun q hq => ?_)
        have hd := DB.out.1 q hq
        exact hf2.block q (by have := Ol.out q hq; simp; omega) hd.2.1 (Ne.symm hd.2.2)
      have X2 : Hid (Below w.heap.size w w2) := X0.out.trans (hf2.wr W0.out X0.out.size)
      have V2 : Hid (IsWr w2 w.heap.size b2 row2 (F ++ p)) := by rw [show [p].flatten = p from by simp] at hw2; exact hw2
      have V1 : Hid (IsWr w2 w.heap.size b1 none []) := by
        refine (W1.out.below ((Below.refl _ _).alloc (Nat.le_refl _) (.cells #[.slice ao p.length pc] 22))).kept (hf2.block b1 (by have := W1.out.lt.1; simp; omega) D1.out (Ne.symm DB.out.2)) (fun j hj => by cases hj)
      have hlw := W1.out.lt.1
      have D2 : Hid ((∀ q, u7.ownBlock = some q → q ≠ b1 ∧ q ≠ b2 ∧ row2 ≠ some q) ∧ row2 ≠ some b1) := by
        refine ⟨fun q hq => ?_, ?_⟩
        · have hd := DB.out.1 q hq
          refine ⟨hd.1, hd.2.1, ?_⟩
          rcases hr2 with rfl | ⟨m, rfl, hm⟩
          · exact hd.2.2
          · intro e
            injection e with e
            have := Ol.out q hq
            simp at hm
            omega
        · rcases hr2 with rfl | ⟨m, rfl, hm⟩
          · exact DB.out.2
          · intro e
            injection e with e
            simp at hm
            omega
      have HB2 : Hid (Bs w2 (.slice ao p.length pc) p) := HB.out.below X2.out
      clear hf2 hr2 hw2 W0 X0 hst W2 W1 OB DB hlw XB
      go_wp2_with (at_builtin; (refine wpList_app _ rfl (.tmp 40) (.tmp 41) 22 rfl w.heap.size 5 i0 (.int .u8 0) 1 1 Try.underlying22 hi hz0 hz1 hz2 rfl (by decide) u7 F.length (F.map bv) rfl O2.out (.slice ao p.length pc) p.length (p.map bv) rfl HB2.out (bv_oneCell _) (by unfold maxLen; omega) (by omega) X2.out.size ?_); intro a3 c3 w3 ho3 hg3 hat3 hne3 hnc3 hcm3)
      have hl2 := V2.out.lt
      have hl1 := V1.out.lt.1
      have F3 : Hid (IsWr w3 w.heap.size b1 none [] ∧ IsWr w3 w.heap.size b2 row2 (ps.take (k + 1)).flatten ∧ w3.ownsRow w.heap.size 5 1 (.slice a3 (F.length + p.length) c3) (ps.take (k + 1)).flatten.length ((ps.take (k + 1)).flatten.map bv) ∧ Below w.heap.size w w3 ∧ (∀ q, (Value.slice a3 (F.length + p.length) c3).ownBlock = some q → q ≠ b1 ∧ q ≠ b2 ∧ row2 ≠ some q) ∧ row2 ≠ some b1 ∧ (∀ p ∈ ps.take (k + 1), p.length ≤ 100)) := by
        rw [hnx.out]
        refine ⟨V1.out.kept (hg3.block b1 hl1 (fun e => (D2.out.1 b1 e.symm).1 rfl)) (fun j hj => by cases hj), V2.out.kept (hg3.block b2 hl2.1 (fun e => (D2.out.1 b2 e.symm).2.1 rfl)) (fun j hj => hg3.block j (hl2.2 j hj).2 (fun e => (D2.out.1 j e.symm).2.2 hj)), ?_, X2.out.grown hg3 X2.out.size (fun j hj => (O2.out.lt j hj).1), ?_, D2.out.2, ?_⟩
        · rw [List.length_append, List.map_append]
          exact ho3
        · intro q hq
          rcases hat3 with e | e
          · rw [e] at hq
            exact D2.out.1 q hq
          · rw [e] at hq
            injection hq with hq
            refine ⟨by omega, by have := hl2.1; omega, fun e2 => ?_⟩
            have := (hl2.2 q e2).2
            omega
        · rw [hnx2.out]
          intro q hq
          rcases List.mem_append.1 hq with h | h
          · exact HP100.out q h
          · simp at h
            rw [h]
            omega
      clear hl1 hl2 ho3 hg3 hat3
      go_roundw
      case rel => exact ⟨k + 1, row2, by omega, by go_num, F3.out⟩
      case measure => simp [intOf]; omega
    · have hkn : ps.take k = ps := List.take_of_length_le (by rw [← HL.out, Hn.out]; omega)
      rw [hkn] at hfl
      have W2' : Hid (IsWr wr w.heap.size b2 row ps.flatten) := by have h := W2.out; rw [hkn] at h; exact h
      have OB' : Hid (wr.ownsRow w.heap.size 5 1 u7 ps.flatten.length (ps.flatten.map bv)) := by have h := OB.out; rw [hkn] at h; exact h
      have HPA : Hid (∀ p ∈ ps, p.length ≤ 100) := by have h := HP100.out; rw [hkn] at h; exact h
      clear W2 OB HP100 hkn hcell X1
      obtain ⟨L, hL⟩ : ∃ L, ps.flatten = L := ⟨_, rfl⟩
      rw [hL] at hfl W2' OB'
      have HLL : Hid (ps.flatten = L) := hL
      have hLl : L.length ≤ 3000 := by omega
      clear hL hfl
      obtain ⟨ao, co, rfl, hco1, hco2, hco3⟩ := owned_slice OB'.out
      unfold maxLen at hco2
      have hst : Hid (∀ W, Fr wr W b1 none → Sl 1 W (.slice a0 n c0) vs.length vs ∧ Parts W vs ps) := by
        intro W hW
        have hbW : Below w.heap.size w W := XB.out.trans (hW.wr W1.out XB.out.size)
        exact ⟨H0'.out.below hbW, HP.out.below hbW⟩
      go_wp2_with fail
      refine (append_any w.heap.size b1 none [] _ vs ps _ W1.out XB.out.size hst.out (by simp) (by rw [Hn.out]; omega) HPA.out).mono ?_
      rintro e w2 ⟨rfl, row1, hw2, hf2, hr2⟩
      rw [HLL.out, List.nil_append] at hw2
      have X2 : Hid (Below w.heap.size w w2) := XB.out.trans (hf2.wr W1.out XB.out.size)
      have V1 : Hid (IsWr w2 w.heap.size b1 row1 L) := hw2
      have V2 : Hid (IsWr w2 w.heap.size b2 row L) := W2'.out.kept (hf2.block b2 W2'.out.lt.1 (Ne.symm D1.out) (by simp)) (fun j hj => hf2.block j (W2'.out.lt.2 j hj).2 (fun e => DB.out.2 (by rw [hj, e])) (by simp))
      have O2 : Hid (w2.ownsRow w.heap.size 5 1 (.slice ao L.length co) L.length (L.map bv)) := owns_kept OB'.out (fun q hq => hf2.block q (OB'.out.lt q hq).2 (DB.out.1 q hq).1 (by simp))
      clear hw2 hf2 hr2 hst W1 W2' OB' XB DB H0' HP HPA
      go_wp2_with fail
      refine (bytes_any _ _ _ _ _ V1.out (by omega)).mono ?_
      rintro e w3 ⟨q3, rfl, hq3, ho3, hb3⟩
      have X3 : Hid (Below w.heap.size w w3) := X2.out.trans (hb3.mono X2.out.size)
      have V3 : Hid (IsWr w3 w.heap.size b2 row L) := V2.out.below hb3
      have O3 : Hid (w3.ownsRow w.heap.size 5 1 (.slice ao L.length co) L.length (L.map bv)) := owns_kept O2.out (fun q hq => hb3.block q (O2.out.lt q hq).2)
      have B3 : Hid (Bs w3 (.slice (some ⟨q3, 0, none⟩) L.length L.length) L) := ho3.bs (by omega)
      clear hq3 ho3 hb3 V1 V2 O2 X2
      go_wp2_with fail
      refine (read_any _ L _ B3.out (by omega)).mono ?_
      rintro e w4 ⟨r, q, rfl, hq4, hr4, hq4l, hrd, hb4⟩
      have X4 : Hid (Below w.heap.size w w4) := X3.out.trans (hb4.mono X3.out.size)
      have V4 : Hid (IsWr w4 w.heap.size b2 row L) := V3.out.below hb4
      have O4 : Hid (w4.ownsRow w.heap.size 5 1 (.slice ao L.length co) L.length (L.map bv)) := owns_kept O3.out (fun q hq => hb4.block q (O3.out.lt q hq).2)
      have R4 : Hid (IsRd w4 r q L) := hrd
      have D4 : Hid (w.heap.size ≤ r ∧ q < w4.heap.size ∧ r < w4.heap.size ∧ b2 < r ∧ (∀ j, row = some j → j < r) ∧ (∀ j, (Value.slice ao L.length co).ownBlock = some j → j < r)) :=
        ⟨by have := X3.out.size; omega, hq4l, hrd.lt, by have := V3.out.lt.1; omega, fun j hj => by have := (V3.out.lt.2 j hj).2; omega, fun j hj => by have := (O3.out.lt j hj).2; omega⟩
      clear hq4 hr4 hq4l hrd hb4 X3 V3 O3 B3
      go_wp2_with fail
      go_loopw [11, 50] (fun v i wr => ∃ (k T : Nat), k ≤ cs.length ∧ i = .int .i64 k ∧ T ≤ L.length ∧ IsRd wr r q (L.drop T) ∧ wr.ownsRow w4.heap.size 5 1 v T ((L.take T).map bv) ∧ IsWr wr w.heap.size b2 row L ∧ wr.ownsRow w.heap.size 5 1 (.slice ao L.length co) L.length (L.map bv) ∧ Below w.heap.size w wr ∧ w4.heap.size ≤ wr.heap.size) (fun _ i _ => cs.length - (intOf i).toNat)
      case atStart => exact ⟨0, 0, by omega, rfl, by omega, by simpa using R4.out, World.ownsRow_nil _ _ _ _, V4.out, O4.out, X4.out, Nat.le_refl _⟩
      case round =>
        obtain ⟨k, T, hk, rfl, hT, hrd, hgot, hwr, hown, hbel, hsz⟩ := hrel
        have RB : Hid (IsRd wr r q (L.drop T)) := hrd
        have GB : Hid (wr.ownsRow w4.heap.size 5 1 u11 T ((L.take T).map bv)) := hgot
        have VB : Hid (IsWr wr w.heap.size b2 row L) := hwr
        have OB : Hid (wr.ownsRow w.heap.size 5 1 (.slice ao L.length co) L.length (L.map bv)) := hown
        have XB : Hid (Below w.heap.size w wr) := hbel
        have SB : Hid (w4.heap.size ≤ wr.heap.size) := hsz
        clear hrd hgot hwr hown hbel hsz X4 V4 O4 R4
        have hld : (L.drop T).length = L.length - T := by simp
        by_cases hlt : k < cs.length
        · rcases hcell1 with hz | ⟨cb, cof, rfl, hcl⟩
          · omega
          have hcc := hcl k _ (map_bv_at cs k hlt)
          have hcb := (XB.out.cell (cell_block_lt hcc)).trans hcc
          clear hcc hcl
          generalize cs[k] = y at *
          have hyl := y.toNat_lt
          obtain ⟨m, hm⟩ : ∃ m : Nat, (y.toNat : Int) % 20 = (m : Int) := ⟨y.toNat % 20, by omega⟩
          have hm20 : m < 20 := by omega
          by_cases hml : m ≤ L.length - T
          · have hqw : q < wr.heap.size := by have := D4.out.2.1; have := SB.out; omega
            go_wp2_with fail
            refine (cut_yes r q _ m _ RB.out hqw (by rw [hld]; exact hml)).mono ?_
            rintro e w5 ⟨p5, rfl, hp5, hown5, hrd5, hg5⟩
            have G5 : Hid (w5.ownsRow w4.heap.size 5 1 u11 T ((L.take T).map bv)) := owns_kept GB.out (fun j hj => hg5.block j (GB.out.lt j hj).2 (by intro e; injection e with e; have := (GB.out.lt j hj).1; have := D4.out.2.2.1; omega))
            have V5 : Hid (IsWr w5 w.heap.size b2 row L) := VB.out.kept (hg5.block b2 VB.out.lt.1 (by intro e; injection e with e; have := D4.out.2.2.2.1; omega)) (fun j hj => hg5.block j (VB.out.lt.2 j hj).2 (by intro e; injection e with e; have := D4.out.2.2.2.2.1 j hj; omega))
            have O5 : Hid (w5.ownsRow w.heap.size 5 1 (.slice ao L.length co) L.length (L.map bv)) := owns_kept OB.out (fun j hj => hg5.block j (OB.out.lt j hj).2 (by intro e; injection e with e; have := D4.out.2.2.2.2.2 j hj; omega))
            have X5 : Hid (Below w.heap.size w w5) := XB.out.grown hg5 XB.out.size (fun j hj => by injection hj with hj; have := D4.out.1; omega)
            have S5 : Hid (w4.heap.size ≤ w5.heap.size) := Nat.le_trans SB.out hg5.size
            have htl : ((L.drop T).take m).length = m := by simp; omega
            have R5 : Hid (IsRd w5 r q (L.drop (T + m))) := by rw [List.drop_drop] at hrd5; exact hrd5
            have BP : Hid (Sl 1 w5 (.slice (some ⟨p5, 0, none⟩) m m) m (((L.drop T).take m).map bv)) := by
              have h := hown5.bs (by omega)
              unfold Bs at h
              rw [htl] at h
              exact h
            clear hown5 hrd5 hg5 hp5 htl hld GB VB OB XB SB RB hqw
            go_wp2_with (at_builtin; (refine wpList_app _ rfl (.tmp 72) (.tmp 73) 22 rfl w4.heap.size 5 i0 (.int .u8 0) 1 1 Try.underlying22 hi hz0 hz1 hz2 rfl (by decide) u11 T ((L.take T).map bv) rfl G5.out (.slice (some ⟨p5, 0, none⟩) m m) m (((L.drop T).take m).map bv) rfl BP.out (bv_oneCell _) (by unfold maxLen; omega) (by omega) S5.out ?_); intro a6 c6 w6 ho6 hg6 hat6 hne6 hnc6 hcm6)
            have F6 : Hid (IsRd w6 r q (L.drop (T + m)) ∧ w6.ownsRow w4.heap.size 5 1 (.slice a6 (T + m) c6) (T + m) ((L.take (T + m)).map bv) ∧ IsWr w6 w.heap.size b2 row L ∧ w6.ownsRow w.heap.size 5 1 (.slice ao L.length co) L.length (L.map bv) ∧ Below w.heap.size w w6 ∧ w4.heap.size ≤ w6.heap.size) := by
              have hge : ∀ j, u11.ownBlock = some j → w4.heap.size ≤ j := fun j hj => (G5.out.lt j hj).1
              have hfar : ∀ j, j < w4.heap.size → w6.heap[j]? = w5.heap[j]? := fun j hj => hg6.block j (Nat.lt_of_lt_of_le hj S5.out) (fun e => by have := hge j e.symm; omega)
              refine ⟨R5.out.kept (hfar r D4.out.2.2.1) (hfar q D4.out.2.1), ?_, V5.out.kept (hfar b2 (by have := D4.out.2.2.2.1; have := D4.out.2.2.1; omega)) (fun j hj => hfar j (by have := D4.out.2.2.2.2.1 j hj; have := D4.out.2.2.1; omega)), owns_kept O5.out (fun j hj => hfar j (by have := D4.out.2.2.2.2.2 j hj; have := D4.out.2.2.1; omega)), X5.out.grown hg6 X5.out.size (fun j hj => by have := hge j hj; have := D4.out.1; have := D4.out.2.2.1; omega), Nat.le_trans S5.out hg6.size⟩
              have e : L.take (T + m) = L.take T ++ (L.drop T).take m := by rw [List.take_add]
              rw [e, List.map_append]
              exact ho6
            clear ho6 hg6 hat6 hne6
            go_roundw
            case rel => exact ⟨k + 1, T + m, by omega, by go_num, by omega, F6.out⟩
            case measure => simp [intOf]; omega
          · have hno : ((L.drop T).length : Int) < (m : Int) := by rw [hld]; omega
            have HNO : Hid (((L.drop T).length : Int) < (m : Int)) := hno
            have hge : ¬ (m : Int) ≤ ((L.drop T).length : Int) := by omega
            have Hge : Hid (¬ (m : Int) ≤ ((L.drop T).length : Int)) := hge
            clear hno hge
            go_wp2_with fail
            refine (cut_no r q _ m _ RB.out (.inr HNO.out)).mono ?_
            rintro e w5 ⟨rfl, rfl⟩
            go_wp2_with fail
            refine (left_any r q _ _ RB.out).mono ?_
            rintro e w7 ⟨rfl, rfl⟩
            have hg2 := Hge.out
            rw [hld] at hg2 ⊢
            clear hld Hge HNO
            have NIL : Hid (Sl 1 w7 (.slice none 0 0) 0 []) := ⟨rfl, none, 0, rfl, Nat.le_refl _, by simp [maxLen], fun _ => rfl, .inl rfl⟩
            go_wp2_with (at_builtin; (refine wpList_app _ rfl (.tmp 72) (.tmp 73) 22 rfl w4.heap.size 5 i0 (.int .u8 0) 1 1 Try.underlying22 hi hz0 hz1 hz2 rfl (by decide) u11 T ((L.take T).map bv) rfl GB.out (.slice none 0 0) 0 [] rfl NIL.out (by simp) (by unfold maxLen; omega) (by omega) SB.out ?_); intro a6 c6 w6 ho6 hg6 hat6 hne6 hnc6 hcm6)
            have F6 : Hid (IsRd w6 r q (L.drop (T + 0)) ∧ w6.ownsRow w4.heap.size 5 1 (.slice a6 (T + 0) c6) (T + 0) ((L.take (T + 0)).map bv) ∧ IsWr w6 w.heap.size b2 row L ∧ w6.ownsRow w.heap.size 5 1 (.slice ao L.length co) L.length (L.map bv) ∧ Below w.heap.size w w6 ∧ w4.heap.size ≤ w6.heap.size) := by
              have hge : ∀ j, u11.ownBlock = some j → w4.heap.size ≤ j := fun j hj => (GB.out.lt j hj).1
              have hfar : ∀ j, j < w4.heap.size → w6.heap[j]? = w7.heap[j]? := fun j hj => hg6.block j (Nat.lt_of_lt_of_le hj SB.out) (fun e => by have := hge j e.symm; omega)
              refine ⟨RB.out.kept (hfar r D4.out.2.2.1) (hfar q D4.out.2.1), ?_, VB.out.kept (hfar b2 (by have := D4.out.2.2.2.1; have := D4.out.2.2.1; omega)) (fun j hj => hfar j (by have := D4.out.2.2.2.2.1 j hj; have := D4.out.2.2.1; omega)), owns_kept OB.out (fun j hj => hfar j (by have := D4.out.2.2.2.2.2 j hj; have := D4.out.2.2.1; omega)), XB.out.grown hg6 XB.out.size (fun j hj => by have := hge j hj; have := D4.out.1; have := D4.out.2.2.1; omega), Nat.le_trans SB.out hg6.size⟩
              skip
              simp only [Nat.add_zero, List.append_nil] at ho6 ⊢
              exact ho6
            clear ho6 hg6 hat6 hne6
            go_roundw
            case rel => exact ⟨k + 1, T + 0, by omega, by go_num, by omega, F6.out⟩
            case measure => simp [intOf]; omega
        · clear hcell1
          obtain ⟨N, hN⟩ : ∃ N, L.length - T = N := ⟨_, rfl⟩
          have hqw : q < wr.heap.size := by have := D4.out.2.1; have := SB.out; omega
          go_wp2_with fail
          refine (left_any r q _ _ RB.out).mono ?_
          rintro e w9 ⟨rfl, rfl⟩
          rw [hld, hN]
          go_wp2_with fail
          refine (cut_yes r q _ N _ RB.out hqw (by rw [hld]; omega)).mono ?_
          rintro e w5 ⟨p5, rfl, hp5, hown5, hrd5, hg5⟩
          have G5 : Hid (w5.ownsRow w4.heap.size 5 1 u11 T ((L.take T).map bv)) := owns_kept GB.out (fun j hj => hg5.block j (GB.out.lt j hj).2 (by intro e; injection e with e; have := (GB.out.lt j hj).1; have := D4.out.2.2.1; omega))
          have V5 : Hid (IsWr w5 w.heap.size b2 row L) := VB.out.kept (hg5.block b2 VB.out.lt.1 (by intro e; injection e with e; have := D4.out.2.2.2.1; omega)) (fun j hj => hg5.block j (VB.out.lt.2 j hj).2 (by intro e; injection e with e; have := D4.out.2.2.2.2.1 j hj; omega))
          have O5 : Hid (w5.ownsRow w.heap.size 5 1 (.slice ao L.length co) L.length (L.map bv)) := owns_kept OB.out (fun j hj => hg5.block j (OB.out.lt j hj).2 (by intro e; injection e with e; have := D4.out.2.2.2.2.2 j hj; omega))
          have X5 : Hid (Below w.heap.size w w5) := XB.out.grown hg5 XB.out.size (fun j hj => by injection hj with hj; have := D4.out.1; omega)
          have S5 : Hid (w4.heap.size ≤ w5.heap.size) := Nat.le_trans SB.out hg5.size
          have htk : (L.drop T).take N = L.drop T := List.take_of_length_le (by rw [hld]; omega)
          have htl : (L.drop T).length = N := by rw [hld]; exact hN
          have R5 : Hid (IsRd w5 r q []) := by
            have e : (L.drop T).drop N = [] := List.drop_eq_nil_of_le (by rw [htl]; exact Nat.le_refl _)
            rw [e] at hrd5
            exact hrd5
          have BP : Hid (Sl 1 w5.drew (.slice (some ⟨p5, 0, none⟩) N N) N ((L.drop T).map bv)) := by
            rw [htk] at hown5
            have h := hown5.bs (by omega)
            unfold Bs at h
            rw [htl] at h
            exact Sl.below h (Below.refl _ _).drew
          have hTN : T + N = L.length := by omega
          have HTN : Hid (T + N = L.length) := hTN
          have hTNb : T + N ≤ 3000 := by omega
          have hst := str_toList
          have s5 : (convert 22 9 (.slice ao L.length co)).run Try.prog w5.drew = .ok (.string (str L)) w5.drew := conv_str (owned_sl O5.out.drew)
          have H6 : Hid (∀ a6 c6 w6, w6.ownsRow w4.heap.size 5 1 (.slice a6 (T + N) c6) (T + N) ((L.take T).map bv ++ (L.drop T).map bv) → w5.drew.grownBy w6 u11.ownBlock →
              (convert 22 9 (.slice ao L.length co)).run Try.prog w6 = .ok (.string (str L)) w6 ∧ (convert 22 9 (.slice a6 (T + N) c6)).run Try.prog w6 = .ok (.string (str L)) w6 ∧ IsWr w6 w.heap.size b2 row L ∧ IsRd w6 r q [] ∧ Below w.heap.size w w6 ∧ w6.ownsRow w.heap.size 5 1 (.slice ao L.length co) L.length (L.map bv) ∧ w4.heap.size ≤ w6.heap.size) := by
            intro a6 c6 w6 ho6 hg6
            have hge : ∀ j, u11.ownBlock = some j → w4.heap.size ≤ j := fun j hj => (G5.out.lt j hj).1
            have hfar : ∀ j, j < w4.heap.size → w6.heap[j]? = w5.heap[j]? := fun j hj => hg6.block j (Nat.lt_of_lt_of_le hj S5.out) (fun e => by have := hge j e.symm; omega)
            have hO6 : w6.ownsRow w.heap.size 5 1 (.slice ao L.length co) L.length (L.map bv) := owns_kept O5.out (fun j hj => hfar j (by have := D4.out.2.2.2.2.2 j hj; have := D4.out.2.2.1; omega))
            refine ⟨conv_str (owned_sl hO6), ?_, V5.out.kept (hfar b2 (by have := D4.out.2.2.2.1; have := D4.out.2.2.1; omega)) (fun j hj => hfar j (by have := D4.out.2.2.2.2.1 j hj; have := D4.out.2.2.1; omega)), R5.out.kept (hfar r D4.out.2.2.1) (hfar q D4.out.2.1), X5.out.drew.grown hg6 X5.out.size (fun j hj => by have := hge j hj; have := D4.out.1; have := D4.out.2.2.1; omega), hO6, Nat.le_trans S5.out hg6.size⟩
            rw [← List.map_append, List.take_append_drop, HTN.out] at ho6
            rw [HTN.out]
            exact conv_str (owned_sl ho6)
          have H7 : Hid (∀ W, IsWr W w.heap.size b2 row L → Below w.heap.size w W → IsRd W r q [] → W.ownsRow w.heap.size 5 1 (.slice ao L.length co) L.length (L.map bv) → w4.heap.size ≤ W.heap.size → Calls Try.prog 26 #[.pointer (some ⟨b2, 0, none⟩)] W fun e w' => ∃ q7, e = .returned (.slice (some ⟨q7, 0, none⟩) L.length L.length) ∧ (convert 22 9 (.slice ao L.length co)).run Try.prog w' = .ok (.string (str L)) w' ∧ (convert 22 9 (.slice (some ⟨q7, 0, none⟩) L.length L.length)).run Try.prog w' = .ok (.string (str L)) w' ∧ IsRd w' r q [] ∧ Below w.heap.size w w') := by
            intro W hW hb hr hO hS
            refine (bytes_any w.heap.size b2 row L W hW (by omega)).mono ?_
            rintro e w7 ⟨q7, rfl, _, ho7, hb7⟩
            exact ⟨q7, rfl, conv_str (owned_sl (owns_kept hO (fun j hj => hb7.block j (hO.lt j hj).2))), conv_str (ho7.bs (by omega)), hr.kept (hb7.block r hr.lt) (hb7.block q (Nat.lt_of_lt_of_le D4.out.2.1 hS)), hb.trans (hb7.mono hb.size)⟩
          have G5d : Hid (w5.drew.ownsRow w4.heap.size 5 1 u11 T ((L.take T).map bv)) := G5.out.drew
          have S5d : Hid (w4.heap.size ≤ w5.drew.heap.size) := S5.out
          clear hown5 hrd5 hg5 hp5 htl htk hld hN hTN RB GB VB OB XB SB hqw V5 O5 G5
          go_wp2
          go_region_law (first | (((refine step_app_g _ (by rfl) (.tmp 85) (.tmp 86) _ (by rfl) w4.heap.size 5 i0 (.int .u8 0) 1 1 Try.underlying22 hi hz0 hz1 hz2 rfl (by decide) u11 T ((L.take T).map bv) (by simp [Act.eval, Act.put]) G5d.out (.slice (some ⟨p5, 0, none⟩) N N) N ((L.drop T).map bv) (by simp [Act.eval, Act.put]) BP.out (bv_oneCell _) (by unfold maxLen; omega) (by omega) S5d.out ?_); intro a6 c6 w6 ho6 hg6 hat6 hne6 hnc6 hcm6; obtain ⟨s6, k6, V6, R6, X6, O6, S6⟩ := H6.out a6 c6 w6 ho6 hg6)) | ((go_simp; go_at_call 26; refine (H7.out _ V6 X6 R6 O6 S6).mono ?_; rintro e w7 ⟨q7, rfl, s7, k7, R7, X7⟩; go_wp2_with fail)) | ((go_simp; go_at_call 32; refine (left_any r q [] _ R7).mono ?_; rintro e w8 ⟨rfl, rfl⟩; go_wp2_with fail)))
          all_goals
            go_wp2
            go_ret
            exact ⟨rfl, X7⟩

end Go.Proofs.Ytjbgfgpclkabjaa
