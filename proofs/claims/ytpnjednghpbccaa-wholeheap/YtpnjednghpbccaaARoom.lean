/-
  The walk of the statement ArenaRoom.
-/
import Derived.Test.YtpnjednghpbccaaAOnto
import Derived.OpenShut
namespace Go.Proofs.Ytpnjednghpbccaa
open Go.RowKit
set_option linter.unusedVariables false

/-- With none back the next one is new. -/
theorem alloced_new {w : World} {B a : Nat} {s s' : Ar} (h : IsAr w B a s) {k : Nat} (hb : s.back = []) (hS : Alloced s s' k) : k = s.bl.length := by
  have h1 : ∀ x, s.bl[k]? = some x → False := fun x hx => by
    have := (h.mem k).2 ⟨x, hx, hS.was x hx⟩
    rw [hb] at this
    cases this
  have h2 : s.bl.length ≤ k := by
    rcases Nat.lt_or_ge k s.bl.length with h3 | h3
    · exact absurd (List.getElem?_eq_getElem h3) (fun e => h1 _ e)
    · exact h3
  obtain ⟨q, hq⟩ := hS.there
  have h3 := (List.getElem?_eq_some_iff.1 hq).1
  rw [hS.len, if_pos hb] at h3
  omega

theorem live_back {s : Ar} : (s.back.length : Int) = (s.bl.length : Int) - s.live := by unfold Ar.live; omega

/-- The numbers from 0 on. -/
def upTo (n : Nat) : List Value := (List.range n).map fun i : Nat => Value.int .i64 (i : Int)

theorem upTo_succ (n : Nat) : upTo (n + 1) = upTo n ++ [.int .i64 (n : Int)] := by
  simp [upTo, List.range_succ]

theorem upTo_at {n i : Nat} (h : i < n) : (upTo n)[i]? = some (.int .i64 (i : Int)) := by
  simp [upTo, h]

theorem freed_has {s : Ar} {k : Nat} {vb : Value} (i : Nat) : (s.freed k vb).has (i : Int) = (if k = i then false else s.has (i : Int)) := by
  unfold Ar.has
  have e : (s.freed k vb).bl[(i : Int).toNat]? = if k = i then (s.bl[i]?).map (fun x => { x with g := false }) else s.bl[i]? := by
    rw [Int.toNat_natCast]
    exact setG_at
  rw [e]
  by_cases h : k = i
  · rw [if_pos h, if_pos h]
    cases s.bl[i]? <;> simp
  · rw [if_neg h, if_neg h, Int.toNat_natCast]

theorem freed_own {s : Ar} {a k j : Nat} {vb : Value} (h : (s.freed k vb).own a j) : s.own a j ∨ vb.ownBlock = some j := by
  rcases h with rfl | h | h | ⟨x, hx, rfl⟩
  · exact .inl (.inl rfl)
  · exact .inl (.inr (.inl h))
  · exact .inr h
  · obtain ⟨i, hi, rfl⟩ := List.mem_iff_getElem.1 hx
    obtain ⟨y, hy, e1, _⟩ := setG_look (List.getElem?_eq_getElem hi)
    exact .inl (.inr (.inr (.inr ⟨y, List.mem_of_getElem? hy, by rw [e1]⟩)))

theorem sizeInts (W : World) : (sizeOf (Try.prog.elem 39)).run Try.prog W = .ok 1 W := by
  obtain ⟨i0, hi, hz0, hz1, hz2⟩ := info_parts Try.infoInt
  have he : Try.prog.elem 39 = 3 := by kernel_rfl
  rw [he]
  simp [sizeOf, typeInfo, hi, hz1]

theorem elemInts : Try.prog.underlying 39 = some (.slice (Try.prog.elem 39)) := by kernel_rfl

set_option maxRecDepth 100000 in
set_option maxHeartbeats 4000000 in
theorem arenaRoom_walk (size most back : Int) (w : World) (hs0 : (Lit.int .i64 size).wf = true) (hm0 : (Lit.int .i64 most).wf = true) (hb0 : (Lit.int .u8 back).wf = true) :
    Calls Try.prog 8 #[.int .i64 size, .int .i64 most, .int .u8 back] w fun e w' => e = .returned (.bool true) ∧ Below w.heap.size w w' := by
  obtain ⟨i0, hi, hz0, hz1, hz2⟩ := info_parts Try.infoInt
  obtain ⟨hbk0, hbk1⟩ := bounds_u8 hb0
  obtain ⟨N0, rfl⟩ := Int.eq_ofNat_of_zero_le hbk0
  clear hs0 hm0 hb0 hbk0
  by_cases hA : 100 < size
  · go_enter Try.func8, Try.ntmps8
    go_wp2_with fail
    refine (speaks4_any w).mono ?_
    rintro e w1 ⟨rfl, hb1⟩
    have X1 : Hid (Below w.heap.size w w1) := hb1
    clear hb1
    go_wp2
    go_ret
    exact ⟨rfl, X1.out⟩
  by_cases hB : 300 < most
  · go_enter Try.func8, Try.ntmps8
    go_wp2_with fail
    refine (speaks4_any w).mono ?_
    rintro e w1 ⟨rfl, hb1⟩
    have X1 : Hid (Below w.heap.size w w1) := hb1
    clear hb1
    go_wp2
    go_ret
    exact ⟨rfl, X1.out⟩
  have hA' : size ≤ 100 := by omega
  have hB' : most ≤ 300 := by omega
  clear hA hB
  have hmx := max2 most 0
  have hsx := max2 size 0
  obtain ⟨M, hM⟩ : ∃ M : Nat, max most 0 = (M : Int) := ⟨(max most 0).toNat, by omega⟩
  obtain ⟨S, hS⟩ : ∃ S : Nat, max size 0 = (S : Int) := ⟨(max size 0).toNat, by omega⟩
  rw [hM] at hmx
  rw [hS] at hsx
  have HM : Hid (max most 0 = (M : Int)) := hM
  have HS : Hid (max size 0 = (S : Int)) := hS
  have hM3 : M ≤ 300 := by omega
  have hS3 : S ≤ 100 := by omega
  clear hM hS
  go_enter Try.func8, Try.ntmps8
  go_wp2_with fail
  refine (speaks4_any w).mono ?_
  rintro e w1 ⟨rfl, hb1⟩
  have X1 : Hid (Below w.heap.size w w1) := hb1
  clear hb1
  go_wp2_with fail
  refine (anew_any size most w1 (by omega)).mono ?_
  rintro e w2 ⟨rfl, hA2, hb2⟩
  rw [HS.out, Int.toNat_natCast] at hA2
  have A2 : Hid (IsAr w2 w1.heap.size w1.heap.size ⟨S, most, .slice none 0 0, .slice none 0 0, [], []⟩) := hA2
  have X2 : Hid (Below w1.heap.size w1 w2) := hb2
  clear hA2 hb2
  obtain ⟨a, ha⟩ : ∃ a, w1.heap.size = a := ⟨_, rfl⟩
  rw [ha] at A2 X2 ⊢
  have Ha : Hid (w1.heap.size = a) := ha
  clear ha
  have XF : Hid (∀ V, Below a w1 V → Below w.heap.size w V) := fun V hV => by
    rw [← Ha.out] at hV
    exact X1.out.trans (hV.mono X1.out.size)
  go_wp2
  go_loopw [8, 33] (fun v i wr => ∃ (j : Nat) (s : Ar), j ≤ M ∧ i = .int .i64 j ∧ wr.ownsRow a 3 1 v j (upTo j) ∧ (∀ q, v.ownBlock = some q → ¬ s.own a q) ∧ IsAr wr a a s ∧ s.size = S ∧ s.most = most ∧ s.bl.length = j ∧ s.back = [] ∧ Below a w1 wr) (fun _ i _ => M - (intOf i).toNat)
  case atStart => exact ⟨0, _, by omega, rfl, World.ownsRow_nil _ _ _ _, fun q hq => by simp [Value.ownBlock] at hq, A2.out, rfl, rfl, rfl, rfl, X2.out⟩
  case round =>
    obtain ⟨j, s, hj, rfl, hown, hne, hAr, hsz, hmo, hlen, hbk, hX⟩ := hrel
    have HO : Hid (wr.ownsRow a 3 1 u8 j (upTo j) ∧ ∀ q, u8.ownBlock = some q → ¬ s.own a q) := ⟨hown, hne⟩
    have HA : Hid (IsAr wr a a s) := hAr
    have HP : Hid (s.size = S ∧ s.most = most ∧ s.bl.length = j ∧ s.back = []) := ⟨hsz, hmo, hlen, hbk⟩
    have HX : Hid (Below a w1 wr) := hX
    have HV : Hid (s.live = (j : Int)) := by unfold Hid Ar.live; rw [hlen, hbk]; simp
    clear hown hne hAr hsz hmo hlen hbk hX
    by_cases hlt : j < M
    · have HMO : Hid (most = (M : Int)) := by have := HM.out; unfold Hid; omega
      go_wp2_with fail
      refine (alloc_yes a a s wr HA.out (by rw [HV.out, HP.out.2.1, HMO.out]; omega) (by rw [HP.out.2.2.1]; omega)).mono ?_
      rintro e w3 ⟨k, s', rfl, hA3, hk3, how3, hS3'⟩
      obtain rfl : k = j := by rw [alloced_new HA.out HP.out.2.2.2 hS3']; exact HP.out.2.2.1
      obtain ⟨q, hq⟩ := hS3'.there
      have HP3 : Hid (s'.size = S ∧ s'.most = most ∧ s'.bl.length = k + 1 ∧ s'.back = [] ∧ s'.bl[k]? = some ⟨q, zeros s.size, true⟩) := by
        have h1 : s'.bl.length = k + 1 := by rw [hS3'.len, if_pos HP.out.2.2.2, HP.out.2.2.1]
        have h2 : s'.live = ((k + 1 : Nat) : Int) := by rw [hS3'.live, HV.out]; omega
        exact ⟨by rw [hS3'.size]; exact HP.out.1, by rw [hS3'.most]; exact HP.out.2.1, h1, back_nil hA3 (by rw [h1, h2]), hq⟩
      have HA3 : Hid (IsAr w3 a a s') := hA3
      have HX3 : Hid (Below a w1 w3) := HA.out.step HX.out hk3 HA.out.B_le
      have HO3 : Hid (w3.ownsRow a 3 1 u8 k (upTo k) ∧ ∀ q, u8.ownBlock = some q → ¬ s'.own a q) := by
        refine ⟨owns_kept HO.out.1 (fun q hq => hk3.block q (HO.out.1.lt q hq).2 (HO.out.2 q hq)), fun q hq hown => ?_⟩
        rcases how3 q hown with h1 | h1
        · exact HO.out.2 q hq h1
        · have := (HO.out.1.lt q hq).2; omega
      clear hA3 hk3 how3 hS3' hq HA HX HO HP HV
      go_wp2_with fail
      refine (get_yes a a s' k _ w3 HA3.out HP3.out.2.2.2.2 rfl).mono ?_
      rintro e w4 ⟨rfl, -, hx4⟩
      rw [HP3.out.1]
      have HA4 : Hid (IsAr w4 a a s') := HA3.out.below hx4
      have HX4 : Hid (Below a w1 w4) := HX3.out.trans (hx4.mono HA3.out.B_le)
      have HO4 : Hid ((w4.alloc (.cells #[.int .i64 (k : Int)] 3)).ownsRow a 3 1 u8 k (upTo k)) := (owns_kept HO3.out.1 (fun q hq => hx4.block q (HO3.out.1.lt q hq).2)).alloc _
      clear hx4
      go_wp2_with (at_builtin; refine wpList_app _ rfl (.tmp 51) (.tmp 53) 39 rfl a 3 i0 (.int .i64 0) 1 8 Try.underlying39 hi hz0 hz1 hz2 rfl (by decide) _ _ _ rfl HO4.out _ 1 _ rfl (alloc_one _ _) (by simp [Value.oneCell']) (by unfold maxLen; omega) (by omega) (by have := HA4.out.B_le; simp; omega) ?_; intro a7 c7 w7 hO7 hg7 hat7 hne7 hnc7 hcm7)
      have hg7' : (w4.alloc (.cells #[.int .i64 (k : Int)] 3)).grownBy w7 u8.ownBlock := hg7
      have hA4' : IsAr (w4.alloc (.cells #[.int .i64 (k : Int)] 3)) a a s' := HA4.out.below (below_alloc _ _)
      have HA7 : Hid (IsAr w7 a a s') := hA4'.kept (fun j hj => hg7'.block j (hA4'.own_lt j hj) (fun e => HO3.out.2 j e.symm hj))
      have HX7 : Hid (Below a w1 w7) := (HX4.out.alloc HA4.out.B_le _).grown hg7' (by have := HA4.out.B_le; simp; omega) (fun q hq => (HO4.out.lt q hq).1)
      have HO7 : Hid (w7.ownsRow a 3 1 (.slice a7 (k + 1) c7) (k + 1) (upTo (k + 1)) ∧ ∀ q, (Value.slice a7 (k + 1) c7).ownBlock = some q → ¬ s'.own a q) := by
        refine ⟨by rw [upTo_succ]; exact hO7, fun q hq => ?_⟩
        have hat : (Value.slice a7 (k + 1) c7).ownBlock = u8.ownBlock ∨ (Value.slice a7 (k + 1) c7).ownBlock = some (w4.alloc (.cells #[.int .i64 (k : Int)] 3)).heap.size := hat7
        rcases hat with h1 | h1
        · exact HO3.out.2 q (by rw [← h1]; exact hq)
        · rw [h1] at hq
          obtain rfl := Option.some.inj hq
          intro hown
          have := hA4'.own_lt _ hown
          omega
      clear hO7 hg7 hg7' hat7 hne7 hnc7 hcm7 hA4'
      go_wp2
      go_roundw
      case rel => exact ⟨k + 1, s', by omega, by go_num, HO7.out.1, HO7.out.2, HA7.out, HP3.out.1, HP3.out.2.1, HP3.out.2.2.1, HP3.out.2.2.2.1, HX7.out⟩
      case measure => simp [intOf]; omega
    · obtain rfl : j = M := by omega
      have HMO : Hid (most ≤ (j : Int)) := by have := HM.out; unfold Hid; omega
      have HAL : Hid (∀ k, k < j → s.has (k : Int) = true) := by
        intro k hk
        have hk' : k < s.bl.length := by rw [HP.out.2.2.1]; exact hk
        have hx := List.getElem?_eq_getElem hk'
        refine has_mk hx ?_
        cases hg : s.bl[k].g with
        | true => rfl
        | false =>
          have := (HA.out.mem k).2 ⟨_, hx, hg⟩
          rw [HP.out.2.2.2] at this
          cases this
      go_wp2_with fail
      refine (alloc_no a a s wr HA.out (by rw [HV.out, HP.out.2.1]; exact HMO.out)).mono ?_
      rintro e w3 ⟨rfl, hx3⟩
      have HA3 : Hid (IsAr w3 a a s) := HA.out.below hx3
      have HX3 : Hid (Below a w1 w3) := HX.out.trans (hx3.mono HA.out.B_le)
      have HO3 : Hid (w3.ownsRow a 3 1 u8 j (upTo j) ∧ ∀ q, u8.ownBlock = some q → ¬ s.own a q) := ⟨owns_kept HO.out.1 (fun q hq => hx3.block q (HO.out.1.lt q hq).2), HO.out.2⟩
      clear hx3 HA HX HO
      obtain ⟨ao, co, hv8, hco, hcm8, -⟩ := owned_slice HO3.out.1
      unfold maxLen at hcm8
      rw [hv8] at HO3 ⊢
      clear hv8
      obtain ⟨N, hN⟩ : ∃ N, min N0 j = N := ⟨_, rfl⟩
      have hmn := min2 N0 j _ rfl
      rw [hN] at hmn
      have hNj : N ≤ j := by omega
      clear hN
      have ssl := fun W => slice_to_g (P := Try.prog) 39 elemInts 1 sizeInts W ao j co N (by omega)
      go_wp2_with fail
      refine (alive_any a a s _ HA3.out).mono ?_
      rintro e w4 ⟨rfl, n4, hw4⟩
      have eL : (s.bl.length : Int) - (s.back.length : Int) = (j : Int) := HV.out
      rw [eL]
      clear eL
      have hx4 : Below w3.heap.size w3 w4 := by rw [hw4]; exact below_drewN (Below.refl _ _) n4
      have HA4 : Hid (IsAr w4 a a s) := HA3.out.below hx4
      have HX4 : Hid (Below a w1 w4) := HX3.out.trans (hx4.mono HA3.out.B_le)
      have HO4 : Hid (w4.ownsRow a 3 1 (.slice ao j co) j (upTo j) ∧ ∀ q, (Value.slice ao j co).ownBlock = some q → ¬ s.own a q) := ⟨owns_kept HO3.out.1 (fun q hq => hx4.block q (HO3.out.1.lt q hq).2), HO3.out.2⟩
      clear hx4 hw4 HA3 HX3 HO3
      go_wp2
      go_loopw [78] (fun i wr => ∃ (t : Nat) (s : Ar), t ≤ N ∧ i = .int .i64 t ∧ IsAr wr a a s ∧ s.most = most ∧ s.bl.length = j ∧ s.live = (j : Int) - (t : Int) ∧ (∀ k, k < j → t ≤ k → s.has (k : Int) = true) ∧ wr.ownsRow a 3 1 (.slice ao j co) j (upTo j) ∧ (∀ q, (Value.slice ao j co).ownBlock = some q → ¬ s.own a q) ∧ Below a w1 wr) (fun i _ => N - (intOf i).toNat)
      case atStart => exact ⟨0, s, by omega, rfl, HA4.out, HP.out.2.1, HP.out.2.2.1, by rw [HV.out]; simp, fun k hk _ => HAL.out k hk, HO4.out.1, HO4.out.2, HX4.out⟩
      case round =>
        obtain ⟨t, s5, ht, rfl, hA5, hmo5, hlen5, hliv5, hhas5, hown5, hne5, hX5⟩ := hrel
        have A5 : Hid (IsAr wr a a s5) := hA5
        have P5 : Hid (s5.most = most ∧ s5.bl.length = j ∧ s5.live = (j : Int) - (t : Int) ∧ ∀ k, k < j → t ≤ k → s5.has (k : Int) = true) := ⟨hmo5, hlen5, hliv5, hhas5⟩
        have O5 : Hid (wr.ownsRow a 3 1 (.slice ao j co) j (upTo j) ∧ ∀ q, (Value.slice ao j co).ownBlock = some q → ¬ s5.own a q) := ⟨hown5, hne5⟩
        have X5 : Hid (Below a w1 wr) := hX5
        clear hA5 hmo5 hlen5 hliv5 hhas5 hown5 hne5 hX5
        by_cases htN : t < N
        · obtain ⟨k', x, hk', hx, hg⟩ := has_iff (P5.out.2.2.2 t (by omega) (Nat.le_refl _))
          obtain rfl : k' = t := by omega
          clear hk'
          have hcell : ∃ b, ao = some ⟨b, 0, none⟩ ∧ wr.cell? ⟨b, k', none⟩ = some (.int .i64 (k' : Int)) := by
            have h := O5.out.1
            rcases h.2 with ⟨_, h0⟩ | ⟨gq, cap, cur, hv, _⟩
            · omega
            · injection hv with e1 _ e3
              subst e3
              rw [e1] at h ⊢
              exact ⟨gq, rfl, by rw [h.cellAt k' (by omega)]; exact upTo_at (by omega)⟩
          obtain ⟨bq, hao, hck⟩ := hcell
          subst hao
          go_wp2_with fail
          refine (free_yes a a s5 k' x wr A5.out hx hg (by rw [P5.out.2.1]; omega)).mono ?_
          rintro e w6 ⟨rfl, vb, hA6, hk6, hv6⟩
          have A6 : Hid (IsAr w6 a a (s5.freed k' vb)) := hA6
          have X6 : Hid (Below a w1 w6) := A5.out.step X5.out hk6 A5.out.B_le
          have O6 : Hid (w6.ownsRow a 3 1 (.slice (some ⟨bq, 0, none⟩) j co) j (upTo j) ∧ ∀ q, (Value.slice (some ⟨bq, 0, none⟩) j co).ownBlock = some q → ¬ (s5.freed k' vb).own a q) := by
            refine ⟨owns_kept O5.out.1 (fun q hq => hk6.block q (O5.out.1.lt q hq).2 (O5.out.2 q hq)), fun q hq hown => ?_⟩
            rcases freed_own hown with h1 | h1
            · exact O5.out.2 q hq h1
            · rcases hv6 with h2 | ⟨q', h2, h3⟩
              · exact O5.out.2 q hq (.inr (.inr (.inl (by rw [← h2]; exact h1))))
              · rw [h2] at h1
                obtain rfl := Option.some.inj h1
                have := (O5.out.1.lt _ hq).2
                omega
          have P6 : Hid ((s5.freed k' vb).most = most ∧ (s5.freed k' vb).bl.length = j ∧ (s5.freed k' vb).live = (j : Int) - ((k' + 1 : Nat) : Int) ∧ (∀ k, k < j → k' + 1 ≤ k → (s5.freed k' vb).has (k : Int) = true) ∧ (s5.freed k' vb).has (k' : Int) = false) := by
            refine ⟨P5.out.1, by rw [freed_len]; exact P5.out.2.1, by rw [freed_live, P5.out.2.2.1]; omega, fun k hk hk2 => ?_, by rw [freed_has, if_pos rfl]⟩
            rw [freed_has, if_neg (by omega)]
            exact P5.out.2.2.2 k hk (by omega)
          clear hA6 hk6 hv6 hx hg A5 X5 O5 P5 hck
          generalize s5.freed k' vb = s6 at *
          go_wp2_with fail
          refine (free_no a a s6 k' w6 A6.out P6.out.2.2.2.2).mono ?_
          rintro e w7 ⟨rfl, rfl⟩
          go_wp2
          go_roundw
          case rel => exact ⟨k' + 1, s6, by omega, by go_num, A6.out, P6.out.1, P6.out.2.1, P6.out.2.2.1, P6.out.2.2.2.1, O6.out.1, O6.out.2, X6.out⟩
          case measure => simp [intOf]; omega
        · obtain rfl : t = N := by omega
          have P5' : Hid (s5.most = most ∧ s5.bl.length = j ∧ s5.live = (j : Int) - (t : Int)) := ⟨P5.out.1, P5.out.2.1, P5.out.2.2.1⟩
          clear P5 O5 HO4 HA4 HX4 hcm8
          go_wp2
          go_loopw [93] (fun i wr => ∃ (z : Nat) (s : Ar), z ≤ t ∧ i = .int .i64 z ∧ IsAr wr a a s ∧ s.most = most ∧ s.bl.length = j ∧ s.live = (j : Int) - (t : Int) + (z : Int) ∧ Below a w1 wr) (fun i _ => t - (intOf i).toNat)
          case atStart => exact ⟨0, s5, by omega, rfl, A5.out, P5'.out.1, P5'.out.2.1, by rw [P5'.out.2.2]; simp, X5.out⟩
          case round =>
            obtain ⟨z, s7, hz, rfl, hA7, hmo7, hlen7, hliv7, hX7⟩ := hrel
            have A7 : Hid (IsAr wr a a s7) := hA7
            have P7 : Hid (s7.most = most ∧ s7.bl.length = j ∧ s7.live = (j : Int) - (t : Int) + (z : Int)) := ⟨hmo7, hlen7, hliv7⟩
            have X7 : Hid (Below a w1 wr) := hX7
            clear hA7 hmo7 hlen7 hliv7 hX7
            by_cases hzt : z < t
            · have HMJ : Hid (most = (j : Int)) := by have := HM.out; unfold Hid; omega
              go_wp2_with fail
              refine (alloc_yes a a s7 wr A7.out (by rw [P7.out.2.2, P7.out.1, HMJ.out]; omega) (by rw [P7.out.2.1]; omega)).mono ?_
              rintro e w8 ⟨k8, s8, rfl, hA8, hk8, -, hS8⟩
              have A8 : Hid (IsAr w8 a a s8) := hA8
              have X8 : Hid (Below a w1 w8) := A7.out.step X7.out hk8 A7.out.B_le
              have P8 : Hid (s8.most = most ∧ s8.bl.length = j ∧ s8.live = (j : Int) - (t : Int) + ((z + 1 : Nat) : Int)) := by
                have hb : s7.back ≠ [] := fun e => by
                  have h1 := live_back (s := s7)
                  rw [e, P7.out.2.1, P7.out.2.2] at h1
                  simp at h1
                  omega
                exact ⟨by rw [hS8.most]; exact P7.out.1, by rw [hS8.len, if_neg hb]; exact P7.out.2.1, by rw [hS8.live, P7.out.2.2]; omega⟩
              clear hA8 hk8 hS8
              go_wp2
              go_roundw
              case rel => exact ⟨z + 1, s8, by omega, by go_num, A8.out, P8.out.1, P8.out.2.1, P8.out.2.2, X8.out⟩
              case measure => simp [intOf]; omega
            · go_wp2_with fail
              refine (alloc_no a a s7 wr A7.out (by rw [P7.out.2.2, P7.out.1]; have := HMO.out; omega)).mono ?_
              rintro e w8 ⟨rfl, hx8⟩
              have A8 : Hid (IsAr w8 a a s7) := A7.out.below hx8
              have X8 : Hid (Below a w1 w8) := X7.out.trans (hx8.mono A7.out.B_le)
              clear hx8
              go_wp2_with fail
              refine (apeak_any a a s7 _ A8.out).mono ?_
              rintro e w9 ⟨rfl, rfl⟩
              rw [P7.out.2.1]
              go_wp2
              go_ret
              exact ⟨rfl, XF.out _ X8.out⟩

end Go.Proofs.Ytpnjednghpbccaa
