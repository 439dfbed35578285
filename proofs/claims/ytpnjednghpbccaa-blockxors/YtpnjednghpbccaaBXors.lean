/-
  The walk of the statement BlockXors.
-/
import Derived.Test.YtpnjednghpbccaaBTwice
import Derived.Test.YtpnjednghpbccaaLZero
import Derived.Test.YtpnjednghpbccaaLPh
import Derived.OpenShut
import Derived.Deep.CutRange
namespace Go.Proofs.Ytpnjednghpbccaa
open Go.RowKit
set_option linter.unusedVariables false

theorem Try.infoBytes : (Try.prog.info? 25).map (fun i => (i.zero, i.size, i.bytes)) = some (some (.slice none 0 0), 1, 24) := by kernel_rfl

/-- Copies of some rows of bytes, each in a block of its own. -/
def Copies (w : World) (B : Nat) (us : List Value) (ls : List (List UInt8)) : Prop :=
  us.length = ls.length ∧ ∀ (i : Nat) u l, us[i]? = some u → ls[i]? = some l → IsOwn B l u w

theorem IsOwn.bs {B : Nat} {l : List UInt8} {v : Value} {W : World} (h : IsOwn B l v W) : Bs W v l := by
  obtain ⟨q, cap, post, rfl, _, h3, h4, h5, _⟩ := h
  exact h3.bs0 _ _ rfl h4 h5

theorem Copies.parts {w : World} {B : Nat} {us : List Value} {ls : List (List UInt8)} (h : Copies w B us ls) : Parts w us ls := ⟨h.1, fun i u l hu hl => (h.2 i u l hu hl).bs⟩

theorem Copies.below {w w' : World} {B : Nat} {us : List Value} {ls : List (List UInt8)} (h : Copies w B us ls) (hb : Below w.heap.size w w') : Copies w' B us ls :=
  ⟨h.1, fun i u l hu hl => stays_own _ _ _ _ _ hb (h.2 i u l hu hl)⟩

theorem Copies.off {w : World} {B q : Nat} {us : List Value} {ls : List (List UInt8)} (h : Copies w B us ls) (hq : q < B) : ∀ u ∈ us, Off q u := by
  intro u hu
  obtain ⟨i, hi, rfl⟩ := List.mem_iff_getElem.1 hu
  have hi' : i < ls.length := by rw [← h.1]; exact hi
  obtain ⟨p, cap, post, e, hp, _⟩ := h.2 i us[i] ls[i] (List.getElem?_eq_getElem hi) (List.getElem?_eq_getElem hi')
  rw [e]
  exact off_at (by omega)

/-- A row of another kind is written: the copies stay. -/
theorem Copies.grown {w w' : World} {B : Nat} {us : List Value} {ls : List (List UInt8)} (h : Copies w B us ls) {row : Option Nat} (hg : w.grownBy w' row) (hr : ∀ g, row = some g → ∃ cur, w.heap[g]? = some (.cells cur 25)) : Copies w' B us ls := by
  refine ⟨h.1, fun i u l hu hl => ?_⟩
  obtain ⟨q, cap, post, e, hq, hb, hx⟩ := h.2 i u l hu hl
  refine ⟨q, cap, post, e, hq, hb.kept (hg.block q hb.lt (fun e2 => ?_)), hx⟩
  obtain ⟨cur, hc⟩ := hr q e2.symm
  unfold Blk at hb
  rw [hb] at hc
  simp at hc

theorem owns_type {w : World} {base : Nat} {e : TypeId} {size : Nat} {v : Value} {n : Nat} {xs : List Value} (h : w.ownsRow base e size v n xs) : ∀ g, v.ownBlock = some g → ∃ cur, w.heap[g]? = some (.cells cur e) := by
  intro g hg
  rcases h.2 with ⟨rfl, _⟩ | ⟨q, cap, cur, rfl, _, hh, _⟩
  · simp [Value.ownBlock] at hg
  · obtain rfl := Option.some.inj hg
    exact ⟨cur, hh⟩

theorem Copies.snoc {w : World} {B : Nat} {us : List Value} {ls : List (List UInt8)} {u : Value} {l : List UInt8} (h : Copies w B us ls) (hu : IsOwn B l u w) : Copies w B (us ++ [u]) (ls ++ [l]) := by
  refine ⟨by simp [h.1], fun i v m hv hm => ?_⟩
  by_cases hi : i < us.length
  · rw [List.getElem?_append_left hi] at hv
    rw [List.getElem?_append_left (by rw [← h.1]; exact hi)] at hm
    exact h.2 i v m hv hm
  · have hi2 : i = us.length := by
      have := (List.getElem?_eq_some_iff.1 hv).1
      simp at this
      omega
    subst hi2
    rw [List.getElem?_append_right (Nat.le_refl _)] at hv
    rw [h.1, List.getElem?_append_right (Nat.le_refl _)] at hm
    simp at hv hm
    subst hv; subst hm
    exact hu

theorem owned_off {w : World} {base q : Nat} {e : TypeId} {size : Nat} {v : Value} {n : Nat} {xs : List Value} (h : w.ownsRow base e size v n xs) (hq : q < base) : Off q v := by
  rcases h.2 with ⟨rfl, _⟩ | ⟨g, cap, cur, rfl, hb, _⟩
  · exact off_nil
  · exact off_at (by omega)

theorem parts_oneCell {w : World} {vs : List Value} {ls : List (List UInt8)} (h : Parts w vs ls) : ∀ u ∈ vs, u.oneCell' = true := by
  intro u hu
  obtain ⟨i, hi, rfl⟩ := List.mem_iff_getElem.1 hu
  have hi' : i < ls.length := by rw [← h.1]; exact hi
  obtain ⟨_, ao, c, hv, _⟩ := h.2 i vs[i] ls[i] (List.getElem?_eq_getElem hi) (List.getElem?_eq_getElem hi')
  rw [hv]
  rfl

set_option maxRecDepth 100000 in
set_option maxHeartbeats 4000000 in
theorem blockXors_walk (v0 : Value) (l0 : List UInt8) (v1 : Value) (vs : List Value) (ls : List (List UInt8)) (room : Int) (w : World) (h0 : Bs w v0 l0) (h1 : Sl 1 w v1 vs.length vs) (hps : Parts w vs ls) (hroom : (Lit.int .u8 room).wf = true) :
    Calls Try.prog 4 #[v0, v1, .int .u8 room] w fun e w' => e = .returned (.bool true) ∧ Below w.heap.size w w' := by
  obtain ⟨i0, hi, hz0, hz1, hz2⟩ := info_parts Try.infoBytes
  obtain ⟨hr0, hr1⟩ := bounds_u8 hroom
  obtain ⟨r, rfl⟩ := Int.eq_ofNat_of_zero_le hr0
  clear hroom hr0
  have H0 : Hid (Bs w v0 l0) := h0
  have H1 : Hid (Sl 1 w v1 vs.length vs) := h1
  have HP : Hid (Parts w vs ls) := hps
  obtain ⟨-, a0, c0, rfl, hc0, hm0, -, -⟩ := h0
  obtain ⟨-, a1, c1, rfl, hc1, hm1, -, -⟩ := h1
  unfold maxLen at hm0 hm1
  obtain ⟨m, hm⟩ : ∃ m, vs.length = m := ⟨_, rfl⟩
  have Hm : Hid (vs.length = m) := hm
  have Hl : Hid (ls.length = m) := by have := hps.1; unfold Hid; omega
  rw [hm] at H1 hc1 ⊢
  clear hps hm
  have HBIG : Hid (∀ W, Below w.heap.size w W → Calls Try.prog 13 #[.slice a1 m c1] W fun e w' => e = .returned (.bool ((ls.any fun l => decide (200 < l.length)) || decide (50 < ls.length))) ∧ w' = W) :=
    fun W hW => big3_any _ vs ls W (by rw [Hm.out]; exact H1.out.below hW) (HP.out.below hW)
  cases hbig : ((ls.any fun l => decide (200 < l.length)) || decide (50 < ls.length)) with
  | true =>
    rw [hbig] at HBIG
    go_enter Try.func4, Try.ntmps4
    go_wp2_with fail
    refine (speaks3_any w).mono ?_
    rintro e w1 ⟨rfl, hb1⟩
    have X1 : Hid (Below w.heap.size w w1) := hb1
    clear hb1
    go_wp2_with fail
    refine (HBIG.out w1 X1.out).mono ?_
    rintro e w2 ⟨rfl, rfl⟩
    go_wp2
    go_ret
    exact ⟨rfl, X1.out⟩
  | false =>
  rw [hbig] at HBIG
  by_cases hA : 200 < l0.length
  · clear hbig
    go_enter Try.func4, Try.ntmps4
    go_wp2_with fail
    refine (speaks3_any w).mono ?_
    rintro e w1 ⟨rfl, hb1⟩
    have X1 : Hid (Below w.heap.size w w1) := hb1
    clear hb1
    go_wp2_with fail
    refine (HBIG.out w1 X1.out).mono ?_
    rintro e w2 ⟨rfl, rfl⟩
    go_wp2
    go_ret
    exact ⟨rfl, X1.out⟩
  have HLS : Hid (∀ l ∈ ls, l.length ≤ 200) := by
    intro l hl
    rw [Bool.or_eq_false_iff, List.any_eq_false] at hbig
    have := hbig.1 l hl
    simpa using this
  have hm50 : m ≤ 50 := by
    rw [Bool.or_eq_false_iff] at hbig
    have h := hbig.2
    rw [Hl.out] at h
    simpa using h
  have hA' : l0.length ≤ 200 := by omega
  clear hA hbig
  go_enter Try.func4, Try.ntmps4
  go_wp2_with fail
  refine (speaks3_any w).mono ?_
  rintro e w1 ⟨rfl, hb1⟩
  have X1 : Hid (Below w.heap.size w w1) := hb1
  clear hb1
  go_wp2_with fail
  refine (HBIG.out w1 X1.out).mono ?_
  rintro e w2 ⟨rfl, rfl⟩
  clear HBIG
  have BS0 : Hid (Bs w2 (.slice a0 l0.length c0) l0) := H0.out.below X1.out
  go_wp2_with (first | (at_builtin; refine wpList_copy w2 rfl (.tmp 25) (.tmp 26) rfl l0 _ _ rfl rfl rfl BS0.out (by omega) ?_; intro q3 c3 w3 hown hbel; obtain ⟨qa, ca, pa, e3, hqa, hba, -, hcm, hca⟩ := hown; subst hca; rw [e3]; clear e3) | (at_builtin; refine wpList_appZ _ rfl (.tmp 27) (.tmp 28) rfl qa l0 pa r _ _ rfl rfl hba hcm (by omega) (by omega) rfl rfl ?_; intro qb cb pb w4 hbb hcb hcmb hgrb))
  have HB4 : Hid (Blk w4 qb [] (l0 ++ zeros r) pb ∧ Below w.heap.size w w4 ∧ w.heap.size ≤ qb) := by
    have hs := X1.out.size
    have hb3 : Below w.heap.size w w3 := X1.out.trans (hbel.mono hs)
    rcases hgrb with ⟨rfl, _, h6, _⟩ | ⟨rfl, _, h6, _⟩
    · exact ⟨hbb, below_grown hb3 h6 hb3.size (by omega), by omega⟩
    · exact ⟨hbb, hb3.trans (h6.mono hb3.size), hb3.size⟩
  have HQ : Hid (qb < w4.heap.size) := hbb.lt
  subst hcb
  have HCM : Hid (l0.length + r + pb.length ≤ maxLen) := hcmb
  unfold maxLen at hcmb
  clear hbel hqa hba hcm hgrb hbb BS0
  obtain ⟨B, hB⟩ : ∃ B, w4.heap.size = B := ⟨_, rfl⟩
  have HB : Hid (w4.heap.size = B) := hB
  rw [hB] at HQ
  clear hB
  go_loopw [9, 38] (fun v i wr => ∃ (k : Nat) (us : List Value), k ≤ m ∧ i = .int .i64 k ∧ wr.ownsRow B 25 1 v k us ∧ Copies wr B us (ls.take k) ∧ Below w4.heap.size w4 wr) (fun _ i _ => m - (intOf i).toNat)
  case atStart => exact ⟨0, [], by omega, rfl, World.ownsRow_nil _ _ _ _, ⟨by simp, fun i u l h => by simp at h⟩, Below.refl _ _⟩
  case round =>
    obtain ⟨k, us, hk, rfl, hown, hcop, hbe⟩ := hrel
    have HC : Hid (Copies wr B us (ls.take k)) := hcop
    have HE : Hid (Below w4.heap.size w4 wr) := hbe
    have HT : Hid (Below w.heap.size w wr) := HB4.out.2.1.trans (hbe.mono HB4.out.2.1.size)
    have HO : Hid (wr.ownsRow B 25 1 u9 k us) := hown
    have HS : Hid (B ≤ wr.heap.size) := by have := hbe.size; rw [HB.out] at this; exact this
    clear hcop hbe hown
    by_cases hlt : k < m
    · have hkv : k < vs.length := by rw [Hm.out]; exact hlt
      have hkl : k < ls.length := by rw [Hl.out]; exact hlt
      obtain ⟨-, a', c', hv, -, -, -, h5⟩ := H1.out.below HT.out
      injection hv with e1 e1b e1c
      subst e1
      rcases h5 with h0 | ⟨pb', po, e2, hcl⟩
      · omega
      subst e2
      have hck := hcl k vs[k] (List.getElem?_eq_getElem hkv)
      have hbk : Bs wr vs[k] ls[k] := (HP.out.2 k vs[k] ls[k] (List.getElem?_eq_getElem hkv) (List.getElem?_eq_getElem hkl)).below HT.out
      have BK : Hid (Bs wr vs[k] ls[k]) := hbk
      have hlk : ls[k].length ≤ 200 := HLS.out _ (List.getElem_mem hkl)
      have HTK : Hid (ls.take (k + 1) = ls.take k ++ [ls[k]]) := List.take_succ_eq_append_getElem hkl
      obtain ⟨-, ak, ck, hvk, -, -, -, -⟩ := hbk
      rw [hvk] at hck BK
      clear hcl e1b e1c hvk
      generalize ls[k] = x at *
      go_wp2_with (first | (at_builtin; refine wpList_copy wr rfl (.tmp 43) (.tmp 44) rfl x _ _ rfl rfl rfl BK.out (by omega) ?_; intro q5 c5 w5 hown5 hb5; have O5 : Hid (IsOwn B x (.slice (some ⟨q5, 0, none⟩) x.length c5) w5) := (by obtain ⟨q, cap, post, h1, h2, h3⟩ := hown5; exact ⟨q, cap, post, h1, Nat.le_trans HS.out h2, h3⟩); have X5 : Hid (Below wr.heap.size wr w5) := hb5; have W5 : Hid ((w5.alloc (.cells #[.slice (some ⟨q5, 0, none⟩) x.length c5] 25)).ownsRow B 25 1 u9 k us) := (owns_kept HO.out (fun q hq => by rw [Below.heap_alloc _ _ _ (Nat.lt_of_lt_of_le (HO.out.lt q hq).2 hb5.size)]; exact hb5.block q (HO.out.lt q hq).2)); clear hown5 hb5) | (at_builtin; refine wpList_app _ rfl (.tmp 42) (.tmp 46) 22 rfl B 25 i0 (.slice none 0 0) 1 24 Try.underlying22 hi hz0 hz1 hz2 rfl (by decide) _ _ _ rfl W5.out _ 1 _ rfl (alloc_one _ _) (by simp [Value.oneCell']) (by unfold maxLen; omega) (by omega) (by have := HS.out; have := X5.out.size; simp; omega) ?_; intro a7 c7 w7 hO7 hg7 hat7 hne7 hnc7 hcm7))
      have HC7 : Hid (Copies w7 B (us ++ [.slice (some ⟨q5, 0, none⟩) x.length c5]) (ls.take (k + 1))) := by
        unfold Hid
        rw [HTK.out]
        exact (((HC.out.below X5.out).snoc O5.out).below (below_alloc _ _)).grown hg7 (owns_type W5.out)
      have X7 : Hid (Below w4.heap.size w4 w7) := by
        have h1 : Below w4.heap.size w4 (w5.alloc (.cells #[.slice (some ⟨q5, 0, none⟩) x.length c5] 25)) := (HE.out.trans (X5.out.mono HE.out.size)).alloc (Nat.le_trans HE.out.size X5.out.size) _
        exact h1.grown hg7 h1.size (fun q hq => by rw [HB.out]; exact (W5.out.lt q hq).1)
      clear hg7 hat7 hne7 hnc7 hcm7
      go_wp2
      go_roundw
      case rel => exact ⟨k + 1, _, by omega, by go_num, hO7, HC7.out, X7.out⟩
      case measure => simp [intOf]; omega
    · have hkm : ls.take k = ls := List.take_of_length_le (by rw [Hl.out]; omega)
      have hk2 : k = m := by omega
      subst hk2
      rw [hkm] at HC
      have HX8 : Hid (Blk wr qb [] l0 ((zeros r).map bv ++ pb)) := Blk.split'.1 (HB4.out.1.below HE.out)
      have HLU : Hid (us.length = k) := by have := HO.out.1; unfold Hid; omega
      obtain ⟨f, hf⟩ : ∃ f, fitB l0.length ls = f := ⟨_, rfl⟩
      obtain ⟨L, hL⟩ : ∃ L, (if f then xorAll l0 ls else l0) = L := ⟨_, rfl⟩
      have HLn : Hid (L.length = l0.length) := by
        unfold Hid
        rw [← hL]
        cases f with
        | false => rfl
        | true => rw [if_pos rfl, xorAll_length (fun x hx => fitB_mem hf hx)]
      have HXC : Hid (∀ v, wr.ownsRow B 25 1 v k us → Calls Try.prog 19 #[.slice (some ⟨qb, 0, none⟩) l0.length l0.length, v] wr fun e w' => e = .returned (.bool f) ∧ Blk w' qb [] L ((zeros r).map bv ++ pb) ∧ wr.grownBy w' (some qb)) := by
        intro v hv
        have hsl : Sl 1 wr v us.length us := by rw [HLU.out]; exact owned_sl hv
        cases f with
        | false =>
          obtain ⟨ao, co, rfl, _⟩ := owned_slice hv
          refine (xor_no _ l0.length l0.length _ us ls wr hsl HC.out.parts hf).mono ?_
          rintro e w' ⟨rfl, rfl⟩
          refine ⟨rfl, ?_, World.grownBy.refl _ _⟩
          rw [← hL]
          exact HX8.out
        | true =>
          refine (xor_yes qb l0.length [] _ l0 _ us ls wr HX8.out (Nat.le_refl _) (by unfold maxLen; omega) hsl HC.out.parts (owned_off hv HQ.out) (HC.out.off HQ.out) hf).mono ?_
          rintro e w' ⟨rfl, h1, h2, -⟩
          refine ⟨rfl, ?_, h2⟩
          rw [← hL]
          exact h1
      have HO' := HO.out
      obtain ⟨ao, co, rfl, hco, hcm9, -⟩ := owned_slice HO'
      unfold maxLen at hcm9
      go_wp2_with fail
      refine (HXC.out _ HO.out).mono ?_
      rintro e w8 ⟨rfl, hb8, hg8⟩
      have B8 : Hid (Blk w8 qb [] L ((zeros r).map bv ++ pb)) := hb8
      have X8 : Hid (Below w.heap.size w w8) := below_grown HT.out hg8 HT.out.size HB4.out.2.2
      have P8 : Hid (Sl 1 w8 (.slice ao k co) k us ∧ Parts w8 us ls) := by
        have h1 : Sl 1 wr (.slice ao k co) k us := owned_sl HO.out
        exact ⟨h1.off (owned_off HO.out HQ.out) (grown_ne hg8), HC.out.parts.off (HC.out.off HQ.out) hg8⟩
      clear hb8 hg8 HO' HXC HX8 HO HC HE HT
      go_wp2_with fail
      refine (rfits_any (l0.length : Int) _ vs ls _ (by rw [Hm.out]; exact H1.out.below X8.out) (HP.out.below X8.out)).mono ?_
      rintro e w9 ⟨rfl, rfl⟩
      have hd : (decide (0 ≤ (l0.length : Int)) && fitB (l0.length : Int).toNat ls) = f := by rw [← hf]; simp
      rw [hd]
      have HF : Hid (fitB l0.length ls = f) := hf
      have HL : Hid ((if f then xorAll l0 ls else l0) = L) := hL
      clear hd hf hL
      go_upto_if 56 with fail
      go_cut [13] from 52 (fun s wx => ∃ a c, s = .slice a l0.length c ∧ Bs wx (.slice a l0.length c) L ∧ Below w9.heap.size w9 wx)
      case first =>
        cases f with
        | false =>
          go_wp2
          go_meet
          case rel =>
            have e : l0 = L := HL.out
            exact ⟨_, _, rfl, by rw [← e]; exact H0.out.below X8.out, Below.refl _ _⟩
        | true =>
          have hrow : (w9.alloc (.cells #[.slice a0 l0.length c0] 25)).ownsRow w9.heap.size 25 1 (.slice (some ⟨w9.heap.size, 0, none⟩) 1 1) 1 [.slice a0 l0.length c0] := World.ownsRow_lit w9 #[.slice a0 l0.length c0] 1 (Nat.le_refl _) (by simp [maxLen]) rfl
          have hsrc : Hid (Sl 1 (w9.alloc (.cells #[.slice a0 l0.length c0] 25)) (.slice a1 k c1) k vs) := (H1.out.below X8.out).below (below_alloc _ _)
          go_wp2_with (at_builtin; refine wpList_app _ rfl (.tmp 60) (.tmp 61) 22 rfl w9.heap.size 25 i0 (.slice none 0 0) 1 24 Try.underlying22 hi hz0 hz1 hz2 rfl (by decide) _ _ _ rfl hrow _ k _ rfl hsrc.out (parts_oneCell HP.out) (by unfold maxLen; omega) (by omega) (by simp) ?_; intro a10 c10 w10 hO10 hg10 hat10 hne10 hnc10 hcm10)
          have X10 : Hid (Below w9.heap.size w9 w10) := (below_alloc w9 (.cells #[.slice a0 l0.length c0] 25)).grown hg10 (by simp) (fun q hq => (hrow.lt q hq).1)
          have S10 : Hid (Sl 1 w10 (.slice a10 (1 + k) c10) (.slice a0 l0.length c0 :: vs).length (.slice a0 l0.length c0 :: vs)) := by
            have h1 := owned_sl hO10
            have e : (Value.slice a0 l0.length c0 :: vs).length = 1 + k := by simp [Hm.out]; omega
            unfold Hid
            rw [e]
            exact h1
          have P10 : Hid (Parts w10 (.slice a0 l0.length c0 :: vs) (l0 :: ls)) := parts_cons ((H0.out.below X8.out).below X10.out) ((HP.out.below X8.out).below X10.out)
          clear hg10 hat10 hne10 hO10 hrow hsrc
          go_wp2_with fail
          refine (rsum_any l0.length _ (.slice a0 l0.length c0 :: vs) (l0 :: ls) _ (by omega) S10.out P10.out (by rw [fitB_cons, HF.out]; simp)).mono ?_
          rintro e w11 ⟨rfl, h11, hx11⟩
          have hL : xorAll (zeros l0.length) (l0 :: ls) = L := by rw [xorAll_first rfl]; exact HL.out
          rw [hL] at h11
          have R11 : Hid (Bs w11 (.slice (some ⟨w10.heap.size, 0, none⟩) l0.length l0.length) L ∧ Below w9.heap.size w9 w11) := ⟨h11.bs0 _ _ HLn.out.symm (Nat.le_refl _) (by unfold maxLen; omega), X10.out.trans (hx11.mono X10.out.size)⟩
          clear h11 hx11 hL
          go_wp2
          go_meet
          case rel => exact ⟨_, _, rfl, R11.out.1, R11.out.2⟩
      case rest =>
        obtain ⟨aw, cw, rfl, hbw, hxw⟩ := hcut
        have BW : Hid (Bs wc (.slice aw l0.length cw) L) := hbw
        have XC : Hid (Below w9.heap.size w9 wc) := hxw
        clear hbw hxw
        have X9 : Hid (Below w.heap.size w wc) := X8.out.trans (XC.out.mono X8.out.size)
        have BX : Hid (Blk wc qb [] L ((zeros r).map bv ++ pb)) := B8.out.below XC.out
        have PX : Hid (Sl 1 wc (.slice ao k co) k us ∧ Parts wc us ls) := ⟨P8.out.1.below XC.out, P8.out.2.below XC.out⟩
        obtain ⟨V, hV, hVb⟩ : ∃ V, (∀ W, (Instr.slice 25 (.slice (some ⟨qb, 0, none⟩) (l0.length + r) (l0.length + r + pb.length)) (some (.int .i64 l0.length)) none none).run Try.prog W = .ok V W) ∧ Bs wc V (zeros r) := by
          refine ⟨_, fun W => slice_from W (some ⟨qb, 0, none⟩) (l0.length + r) (l0.length + r + pb.length) l0.length (by omega), ?_⟩
          have h1 : Bs wc (.slice (some ⟨qb, 0, none⟩) (l0.length + r) (l0.length + r + pb.length)) (L ++ zeros r) := (Blk.split'.2 BX.out).bs0 _ _ (by rw [List.length_append, HLn.out, zeros_length]) (by omega) HCM.out
          have h2 := h1.mid l0.length r (Nat.le_refl _)
          have e1 : ((L ++ zeros r).drop l0.length).take r = zeros r := by
            rw [← HLn.out, List.drop_left, List.take_of_length_le (by rw [zeros_length]; exact Nat.le_refl _)]
          have e2 : l0.length + r - l0.length = r := by omega
          rw [e1] at h2
          rw [e2]
          exact h2
        have VB : Hid (Bs wc V (zeros r)) := hVb
        clear hVb X8 XC B8 P8
        go_wp2
        go_loopw [67] (fun i wr => ∃ j : Nat, j ≤ k ∧ i = .int .i64 j ∧ Below wc.heap.size wc wr) (fun i _ => k - (intOf i).toNat)
        case atStart => exact ⟨0, by omega, rfl, Below.refl _ _⟩
        case round =>
          obtain ⟨j, hj, rfl, hbe⟩ := hrel
          have HE : Hid (Below wc.heap.size wc wr) := hbe
          clear hbe
          by_cases hjk : j < k
          · have hju : j < us.length := by rw [HLU.out]; exact hjk
            have hjv : j < vs.length := by rw [Hm.out]; exact hjk
            have hjl : j < ls.length := by rw [Hl.out]; exact hjk
            obtain ⟨-, a', c', hv, -, -, -, h5⟩ := PX.out.1.below HE.out
            injection hv with e1 e1b e1c
            subst e1
            rcases h5 with h0 | ⟨b5, o5, e2, hc5⟩
            · omega
            subst e2
            have hcu := hc5 j us[j] (List.getElem?_eq_getElem hju)
            obtain ⟨-, a6, c6, hv6, -, -, -, h6⟩ := H1.out.below (X9.out.trans (HE.out.mono X9.out.size))
            injection hv6 with e3 e3b e3c
            subst e3
            rcases h6 with h0 | ⟨b6, o6, e4, hc6⟩
            · omega
            subst e4
            have hcv := hc6 j vs[j] (List.getElem?_eq_getElem hjv)
            have bu := (PX.out.2.2 j us[j] ls[j] (List.getElem?_eq_getElem hju) (List.getElem?_eq_getElem hjl)).below HE.out
            have bw := (HP.out.2 j vs[j] ls[j] (List.getElem?_eq_getElem hjv) (List.getElem?_eq_getElem hjl)).below (X9.out.trans (HE.out.mono X9.out.size))
            have k1 := fun n => conv_bytes (bu.below (below_drewN (Below.refl _ _) n))
            have k2 := fun n => conv_bytes (bw.below (below_drewN (Below.refl _ _) n))
            have k1' := conv_bytes bu
            have k2' := conv_bytes bw
            clear e1b e1c e3b e3c hc5 hc6
            obtain ⟨-, ax, cx, hvx, -, -, -, -⟩ := bu
            obtain ⟨-, ay, cy, hvy, -, -, -, -⟩ := bw
            rw [hvx] at hcu k1 k1'
            rw [hvy] at hcv k2 k2'
            clear hvx hvy
            generalize ls[j] = x at *
            have hst := str_toList
            have hjI : (j : Int) < (k : Int) := by omega
            go_wp2
            go_quiet (fail)
            have HN : Hid (Below wc.heap.size wc (wr.drewN nq)) := below_drewN HE.out nq
            go_wp2
            go_roundw
            case rel => exact ⟨j + 1, by omega, by go_num, HN.out⟩
            case measure => simp [intOf]; omega
          · have X12 : Hid (Below w.heap.size w wr) := X9.out.trans (HE.out.mono X9.out.size)
            go_wp2_with fail
            refine (rfits_any (l0.length : Int) _ vs ls _ (by rw [Hm.out]; exact H1.out.below X12.out) (HP.out.below X12.out)).mono ?_
            rintro e w9 ⟨rfl, rfl⟩
            have hd : (decide (0 ≤ (l0.length : Int)) && fitB (l0.length : Int).toNat ls) = f := by rw [← HF.out]; simp
            rw [hd]
            clear hd
            have k1 := conv_bytes ((BX.out.below HE.out).bs0 l0.length l0.length HLn.out.symm (Nat.le_refl _) (by unfold maxLen; omega))
            have k2 := conv_bytes (BW.out.below HE.out)
            have hst := str_toList
            go_wp2_with fail
            refine (rzero_any _ _ _ (VB.out.below HE.out)).mono ?_
            rintro e w13 ⟨rfl, rfl⟩
            rw [zeroB_zeros]
            go_wp2
            go_ret
            exact ⟨rfl, X12.out⟩

end Go.Proofs.Ytpnjednghpbccaa
