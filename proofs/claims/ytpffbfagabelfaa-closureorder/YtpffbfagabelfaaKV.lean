/-
  ClosureOrder.
-/
import Derived.Test.YtpffbfagabelfaaKU
import Derived.RegionTactic
import Derived.Deep.Light
namespace Go.Proofs.Ytpffbfagabelfaa
open Go.RowKit
set_option linter.unusedVariables false

theorem step_addR2 (w : World) {ops : Array Oper} {o : Oper} {a : Act} {K : Act → World → Prop} {Q : Exit → Act → World → Prop} {E : Prop} (hgd : o.guard = none) (s x : Operand)
    (ho : o.op = .call { callee := .builtin .append, args := #[s, x], argTypes := #[22, 22] })
    (B : Nat) (v : Value) (n : Nat) (l : List Value) (hs : a.eval s = v) (hown : OwnR B w v n l)
    (xv : Value) (m : Nat) (news : List Value) (hx : a.eval x = xv) (hsrc : Sl 1 w xv m news) (h1 : ∀ u ∈ news, u.oneCell' = true)
    (hlen : n + m ≤ 1000000000) (hbase : B ≤ w.heap.size)
    (h : ∀ ao cap w', OwnR B w' (.slice ao (n + m) cap) (n + m) (l ++ news) → w.grownBy w' v.ownBlock → K (a.put o.dst (.slice ao (n + m) cap)) w') :
    if Region.wanted o (yielded ops a.tmps) = true then Oper.wp Try.prog o a w K Q else E := by
  obtain ⟨i, hi, hz, g1, g8⟩ := info_parts Try.infoR
  refine step_app w hgd s x 22 ho B 25 i (.slice none 0 0) 1 24 Try.underlying22 hi hz g1 g8 rfl (by decide) v n _ hs hown xv m _ hx hsrc h1 (by unfold maxLen; omega) (by omega) hbase ?_
  intro ao cap w' h2 h3 h4 h5 h6 h7
  exact h ao cap w' h2 h3
theorem wpList_addRs (w : World) {ops : Array Oper} {rest : List Oper} {o : Oper} {a : Act} {Q : Exit → Act → World → Prop} (hgd : o.guard = none) (s x : Operand)
    (ho : o.op = .call { callee := .builtin .append, args := #[s, x], argTypes := #[22, 22] })
    (B : Nat) (v : Value) (n : Nat) (l : List Value) (hs : a.eval s = v) (hown : OwnR B w v n l)
    (xv : Value) (m : Nat) (news : List Value) (hx : a.eval x = xv) (hsrc : Sl 1 w xv m news) (h1 : ∀ u ∈ news, u.oneCell' = true)
    (hlen : n + m ≤ 1000000000) (hbase : B ≤ w.heap.size)
    (h : ∀ ao cap w', OwnR B w' (.slice ao (n + m) cap) (n + m) (l ++ news) → w.grownBy w' v.ownBlock → wpList Try.prog ops Q rest (a.put o.dst (.slice ao (n + m) cap)) w') : wpList Try.prog ops Q (o :: rest) a w := by
  obtain ⟨i, hi, hz, g1, g8⟩ := info_parts Try.infoR
  refine wpList_app w hgd s x 22 ho B 25 i (.slice none 0 0) 1 24 Try.underlying22 hi hz g1 g8 rfl (by decide) v n _ hs hown xv m _ hx hsrc h1 (by unfold maxLen; omega) (by omega) hbase ?_
  intro ao cap w' h2 h3 h4 h5 h6 h7
  exact h ao cap w' h2 h3
def IsSrcR (u : Value) : Value → World → Prop := fun v W => Sl 1 W v 2 [u, u]
theorem stays_srcr (u : Value) : Stays (IsSrcR u) := fun _ _ _ hb h => Sl.below h hb
theorem two_srcV (w : World) (u : Value) (e : TypeId) : Sl 1 (w.alloc (.cells #[u, u] e)) (.slice (some ⟨w.heap.size, 0, none⟩) 2 2) 2 [u, u] := Sl.lit w [u, u] e _ 2 rfl rfl (by simp)
def IsR2 (B n : Nat) (us : List Value) : Value → World → Prop := fun v W => ∃ a c, v = .slice a n c ∧ OwnR B W v n us
theorem stays_r2 (B n : Nat) (us : List Value) : Stays (IsR2 B n us) := fun _ _ _ hb ⟨a, c, h1, h2⟩ => ⟨a, c, h1, h2.below hb⟩
theorem lsz_one {w : World} {us : List Value} {ls : List (List Int)} (h : LsZ w us ls) {u : Value} (hu : u ∈ us) : ∃ l, Zs w u l := by
  obtain ⟨i, hi⟩ := List.mem_iff_getElem?.1 hu
  have h1 := (List.getElem?_eq_some_iff.1 hi).1
  exact ⟨_, h.2 i u _ hi (List.getElem?_eq_getElem (by rw [← h.1]; exact h1))⟩
theorem zs_oneCell {w : World} {v : Value} {l : List Int} (h : Zs w v l) : v.oneCell' = true := by
  obtain ⟨a, c, rfl, -, -⟩ := zs_shape h
  rfl
theorem fol_same {all : Int} {ls ms : List (List Int)} (h : ∀ l, l ∈ ls ↔ l ∈ ms) (x : Int) : Fol (fitF all ls) x ↔ Fol (fitF all ms) x :=
  ⟨Fol.mono fun l hl => by rw [fitF_mem] at hl ⊢; exact ⟨(h l).1 hl.1, hl.2⟩, Fol.mono fun l hl => by rw [fitF_mem] at hl ⊢; exact ⟨(h l).2 hl.1, hl.2⟩⟩
theorem LsZ.append {w : World} {us vs : List Value} {ls ms : List (List Int)} (h : LsZ w us ls) (h' : LsZ w vs ms) : LsZ w (us ++ vs) (ls ++ ms) := by
  refine ⟨by rw [List.length_append, List.length_append, h.1, h'.1], fun i v l hv hl => ?_⟩
  by_cases hlt : i < us.length
  · rw [List.getElem?_append_left hlt] at hv
    rw [List.getElem?_append_left (by rw [← h.1]; exact hlt)] at hl
    exact h.2 i v l hv hl
  · rw [List.getElem?_append_right (by omega)] at hv
    rw [List.getElem?_append_right (by rw [← h.1]; omega), ← h.1] at hl
    exact h'.2 _ v l hv hl

set_option maxRecDepth 100000 in
set_option maxHeartbeats 4000000 in
theorem closureOrder_walk (s : Int) (pv : Value) (vs : List Value) (ls : List (List Int)) (qv : Value) (ws : List Value) (ms : List (List Int)) (w : World) (hs : (Lit.int .u8 s).wf = true) (hp : Sl 1 w pv vs.length vs) (hz : LsZ w vs ls) (hw : LzW ls) (hq : Sl 1 w qv ws.length ws) (hzq : LsZ w ws ms) (hwq : LzW ms) :
    Calls Try.prog 4 #[.int .u8 s, pv, qv] w fun e w' => e = .returned (.bool true) ∧ Below w.heap.size w w' := by
  obtain ⟨hsl, hsu⟩ := bounds_u8 hs
  obtain ⟨S, rfl⟩ := Int.eq_ofNat_of_zero_le hsl
  have hS : S < 256 := by omega
  clear hsl hsu
  obtain ⟨n, hn⟩ : ∃ n, S % 40 = n := ⟨_, rfl⟩
  have hn40 : n < 40 := by omega
  have eS : (S : Int) % 40 = (n : Int) := by omega
  have HZ : Hid (LsZ w vs ls) := hz
  have HW : Hid (LzW ls) := hw
  have HP : Hid (Sl 1 w pv vs.length vs) := hp
  have HZQ : Hid (LsZ w ws ms) := hzq
  have HWQ : Hid (LzW ms) := hwq
  have HQ : Hid (Sl 1 w qv ws.length ws) := hq
  have HSM : Hid (n < 40) := hn40
  clear hp hz hw hq hzq hwq hs hn
  go_enter Try.func4, Try.ntmps4
  go_wp2_with fail
  refine (speaks16_any w).mono ?_
  rintro e w1 ⟨rfl, hb⟩
  have X1 : Hid (Below w.heap.size w w1) := hb
  clear hb
  go_wp2_with fail
  refine (big16_any pv vs ls w1 (HP.out.below X1.out) (HZ.out.below X1.out) HW.out).mono ?_
  rintro e w1' ⟨⟨b, rfl, hB⟩, hw1⟩
  obtain rfl : w1 = w1' := hw1.symm
  clear hw1
  cases b with
  | true =>
    clear hB
    go_wp2
    go_ret
    exact ⟨rfl, X1.out⟩
  | false =>
    have BB : Hid (ls.length + ls.flatten.length ≤ 400) := hB rfl
    clear hB
    go_wp2_with fail
    refine (big16_any qv ws ms w1 (HQ.out.below X1.out) (HZQ.out.below X1.out) HWQ.out).mono ?_
    rintro e w1' ⟨⟨b, rfl, hB⟩, hw1⟩
    obtain rfl : w1 = w1' := hw1.symm
    clear hw1
    cases b with
    | true =>
      clear hB
      go_wp2
      go_ret
      exact ⟨rfl, X1.out⟩
    | false =>
      have BM : Hid (ms.length + ms.flatten.length ≤ 400) := hB rfl
      clear hB
      obtain ⟨m, hm⟩ : ∃ m, vs.length = m := ⟨_, rfl⟩
      have HF : Hid (ls.length = m) := by rw [← hm]; exact HZ.out.1.symm
      have hp' := HP.out
      obtain ⟨-, ao, pc, rfl, hp2, hp3, -, -⟩ := hp'
      unfold maxLen at hp3
      have HP0 : Hid (Sl 1 w (.slice ao m pc) vs.length vs) := by
        have h1 := HP.out
        unfold Hid
        rw [hm] at h1 ⊢
        exact h1
      rw [hm] at hp2 ⊢
      have hm4 : m ≤ 400 := by have h1 := BB.out; have h2 := HF.out; omega
      have FF0 : Hid ((ls.take m).flatten.length ≤ ls.flatten.length) := flat_take_le ls m
      have HM : Hid (vs.length = m) := hm
      clear hm HP
      go_wp2
      rw [eS]
      clear eS
      go_loopw [8, 28] (fun bv iv wr => ∃ (i : Nat) (a : Option Addr) (c : Nat) (us : List Value) (bl : List (List Int)), i ≤ m ∧ iv = .int .i64 i ∧ bv = .slice a (2 * i) c ∧ Hid (OwnR w.heap.size wr (.slice a (2 * i) c) (2 * i) us) ∧ Hid (LsZ w us bl) ∧ Hid (∀ l ∈ bl, l ∈ ls) ∧ Hid (∀ (j : Nat) (l : List Int), m ≤ j + i → ls[j]? = some l → l ∈ bl) ∧ Hid (bl.flatten.length + 2 * (ls.take (m - i)).flatten.length ≤ 2 * ls.flatten.length) ∧ Hid (Below w.heap.size w wr)) (fun _ iv _ => m - (intOf iv).toNat)
      case atStart =>
        refine ⟨0, none, 0, [], [], by omega, rfl, rfl, OwnR.nil _ _, LsZ.nil w, (by intro l hl; cases hl), (fun j l h1 h2 => ?_), ?_, X1⟩
        · have := (List.getElem?_eq_some_iff.1 h2).1
          have := HF.out
          omega
        · have := FF0.out
          unfold Hid
          simp only [List.flatten_nil, List.length_nil, Nat.zero_add, Nat.sub_zero]
          omega
      case round =>
        clear X1 FF0
        obtain ⟨i, ba, bc, us, bl, hi, rfl, rfl, OO, UU, IN, AL, FL, XX⟩ := hrel
        by_cases hlt : i < m
        · obtain ⟨k, hk⟩ : ∃ k, m - 1 - i = k := ⟨_, rfl⟩
          have hkm : k < m := by omega
          obtain ⟨l, hl⟩ : ∃ l, ls[k]? = some l := ⟨_, List.getElem?_eq_getElem (by rw [HF.out]; exact hkm)⟩
          obtain ⟨lv, hlv, hlz⟩ := HZ.out.at hl
          obtain ⟨b0, off, rfl, ci⟩ := sl_at HP0.out XX.out hlv
          have LZ : Hid (Zs w lv l) := hlz
          have FT : Hid ((ls.take (k + 1)).flatten.length = (ls.take k).flatten.length + l.length) := flatl_next hl
          have HL : Hid (ls[k]? = some l) := hl
          obtain ⟨la, lc, rfl, hl2, hl3⟩ := zs_shape hlz
          have CI : Hid (∀ W, KeepsBut (fun z => (Value.slice ba (2 * i) bc).ownBlock = some z) wr W → W.cell? ⟨b0, off + k, none⟩ = some (.slice la l.length lc)) := fun W hW => by
            have hne : (Value.slice ba (2 * i) bc).ownBlock ≠ some b0 := fun h => by
              have h1 := (OO.out.lt b0 h).1
              obtain ⟨b0', off', e1, e2⟩ := sl_at HP0.out (Below.refl _ _) hlv
              injection e1 with e1
              injection e1 with e1 _ _
              subst e1
              have := cell_block_lt e2
              have h2 : b0 < w.heap.size := this
              omega
            exact (World.cell?_of_block (hW.block b0 (cell_block_lt ci) hne)).trans ci
          have wk1 : IntKind.i64.wrap ((m : Int) - 1) = (m : Int) - 1 := by rw [IntKind.wrap_i64]; omega
          have wk2 : IntKind.i64.wrap ((m : Int) - 1 - (i : Int)) = (k : Int) := by rw [IntKind.wrap_i64]; omega
          have hi9 : 2 * i + 2 ≤ 1000000000 := by omega
          have HK : Hid (m - 1 - i = k) := hk
          have SZ : Hid (w.heap.size ≤ wr.heap.size) := XX.out.size
          clear hl hlv hlz hk
          go_upto_region 10 with fail
          refine wp_region_any (by kernel_rfl) ?_
          obtain ⟨gs, hgs⟩ : ∃ gs : List (Value → World → Prop), gs = [IsV (Value.slice ba (2 * i) bc), IsV (Value.slice (some { block := b0, off := off }) m pc), IsV (Value.slice (some { block := b0, off := off }) m pc), IsV (.int .i64 (m : Int)), IsV (.int .i64 ((m : Int) - 1)), IsV (Value.int IntKind.i64 ↑i), IsV (.int .i64 (k : Int)), IsV (.pointer (some ⟨b0, off + k, none⟩)), IsV (.slice la l.length lc), IsV (Value.slice (some { block := b0, off := off }) m pc), IsV (Value.slice (some { block := b0, off := off }) m pc), IsV (.int .i64 (m : Int)), IsV (.int .i64 ((m : Int) - 1)), IsV (Value.int IntKind.i64 ↑i), IsV (.int .i64 (k : Int)), IsV (.pointer (some ⟨b0, off + k, none⟩)), IsV (.slice la l.length lc), IsAnyV, IsAnyV, IsAnyV] := ⟨_, rfl⟩
          have g0 : Hid (gs[0]? = some (IsV (Value.slice ba (2 * i) bc))) := by unfold Hid; rw [hgs]; rfl
          have g1 : Hid (gs[1]? = some (IsV (Value.slice (some { block := b0, off := off }) m pc))) := by unfold Hid; rw [hgs]; rfl
          have g2 : Hid (gs[2]? = some (IsV (Value.slice (some { block := b0, off := off }) m pc))) := by unfold Hid; rw [hgs]; rfl
          have g3 : Hid (gs[3]? = some (IsV (.int .i64 (m : Int)))) := by unfold Hid; rw [hgs]; rfl
          have g4 : Hid (gs[4]? = some (IsV (.int .i64 ((m : Int) - 1)))) := by unfold Hid; rw [hgs]; rfl
          have g5 : Hid (gs[5]? = some (IsV (Value.int IntKind.i64 ↑i))) := by unfold Hid; rw [hgs]; rfl
          have g6 : Hid (gs[6]? = some (IsV (.int .i64 (k : Int)))) := by unfold Hid; rw [hgs]; rfl
          have g7 : Hid (gs[7]? = some (IsV (.pointer (some ⟨b0, off + k, none⟩)))) := by unfold Hid; rw [hgs]; rfl
          have g8 : Hid (gs[8]? = some (IsV (.slice la l.length lc))) := by unfold Hid; rw [hgs]; rfl
          have g9 : Hid (gs[9]? = some (IsV (Value.slice (some { block := b0, off := off }) m pc))) := by unfold Hid; rw [hgs]; rfl
          have g10 : Hid (gs[10]? = some (IsV (Value.slice (some { block := b0, off := off }) m pc))) := by unfold Hid; rw [hgs]; rfl
          have g11 : Hid (gs[11]? = some (IsV (.int .i64 (m : Int)))) := by unfold Hid; rw [hgs]; rfl
          have g12 : Hid (gs[12]? = some (IsV (.int .i64 ((m : Int) - 1)))) := by unfold Hid; rw [hgs]; rfl
          have g13 : Hid (gs[13]? = some (IsV (Value.int IntKind.i64 ↑i))) := by unfold Hid; rw [hgs]; rfl
          have g14 : Hid (gs[14]? = some (IsV (.int .i64 (k : Int)))) := by unfold Hid; rw [hgs]; rfl
          have g15 : Hid (gs[15]? = some (IsV (.pointer (some ⟨b0, off + k, none⟩)))) := by unfold Hid; rw [hgs]; rfl
          have g16 : Hid (gs[16]? = some (IsV (.slice la l.length lc))) := by unfold Hid; rw [hgs]; rfl
          have g17 : Hid (gs[17]? = some (IsAnyV)) := by unfold Hid; rw [hgs]; rfl
          have g18 : Hid (gs[18]? = some (IsAnyV)) := by unfold Hid; rw [hgs]; rfl
          have g19 : Hid (gs[19]? = some (IsAnyV)) := by unfold Hid; rw [hgs]; rfl
          have gk : Hid (∀ p ∈ gs, ∀ v (U U' : World), p v U → p v U') := by
            unfold Hid
            rw [hgs]
            simp only [List.forall_mem_cons]
            exact ⟨(fun _ _ _ h => h), (fun _ _ _ h => h), (fun _ _ _ h => h), (fun _ _ _ h => h), (fun _ _ _ h => h), (fun _ _ _ h => h), (fun _ _ _ h => h), (fun _ _ _ h => h), (fun _ _ _ h => h), (fun _ _ _ h => h), (fun _ _ _ h => h), (fun _ _ _ h => h), (fun _ _ _ h => h), (fun _ _ _ h => h), (fun _ _ _ h => h), (fun _ _ _ h => h), (fun _ _ _ h => h), (fun _ _ _ h => h), (fun _ _ _ h => h), (fun _ _ _ h => h), by simp⟩
          clear hgs
          have JS : Hid (∀ W8 W8', Below W8.heap.size W8 W8' → (fun W8 => KeepsBut (fun z => (Value.slice ba (2 * i) bc).ownBlock = some z) wr W8) W8 → (fun W8 => KeepsBut (fun z => (Value.slice ba (2 * i) bc).ownBlock = some z) wr W8) W8') := fun W8 W8' hb h => h.trans (KeepsBut.ofBelow hb)
          have st17 : Hid (Stays (IsSrcR (.slice la l.length lc))) := stays_srcr _
          have st18 : Hid (Stays (IsR2 w.heap.size (2 * i + 2) (us ++ [.slice la l.length lc, .slice la l.length lc]))) := stays_r2 _ _ _
          have st19 : Hid (Stays (IsR2 w.heap.size (2 * i + 2) (us ++ [.slice la l.length lc, .slice la l.length lc]))) := stays_r2 _ _ _
          have su18 : Hid (∀ W8 W8', Below W8.heap.size W8 W8' → (fun W8 => OwnR w.heap.size W8 (.slice ba (2 * i) bc) (2 * i) us) W8 → (fun W8 => OwnR w.heap.size W8 (.slice ba (2 * i) bc) (2 * i) us) W8') := fun W8 W8' hb h => h.below hb
          refine wpAny_inv4 (fun listed ac W8 => ∃ xv8 : Nat → Value, ac = ⟨#[Value.int IntKind.u8 ↑S, Value.slice (some { block := b0, off := off }) m pc, qv, undef, undef, undef, Value.bool false, Value.int IntKind.i64 ↑n, xv8 19, Value.int IntKind.i64 ↑i, undef, undef, undef, undef, undef, Value.bool true, Value.bool false, Value.slice (some { block := b0, off := off }) m pc, Value.bool false, Value.bool false, qv, Value.bool false, Value.bool false, Value.int IntKind.u8 ↑S, Value.int IntKind.i64 ↑S, Value.int IntKind.i64 ↑n, Value.slice (some { block := b0, off := off }) m pc, Value.int IntKind.i64 ↑m, Value.int IntKind.i64 ↑i, Value.bool true, Value.int IntKind.i64 ↑i, xv8 0, xv8 1, xv8 2, xv8 3, xv8 4, xv8 5, xv8 6, xv8 7, xv8 8, xv8 9, xv8 10, xv8 11, xv8 12, xv8 13, xv8 14, xv8 15, xv8 16, xv8 17, xv8 18, u50, undef, undef, undef, undef, undef, undef, undef, undef, undef, undef, undef, undef, undef, undef, undef, undef, undef, undef, undef, undef, undef, undef, undef, undef, undef, undef], []⟩ ∧ (fun W8 => KeepsBut (fun z => (Value.slice ba (2 * i) bc).ownBlock = some z) wr W8) W8 ∧ Lst gs listed xv8 W8 ∧ Fd listed xv8 W8 17 18 (IsSrcR (.slice la l.length lc)) ∧ Fe listed xv8 W8 18 (IsR2 w.heap.size (2 * i + 2) (us ++ [.slice la l.length lc, .slice la l.length lc])) ∧ Fe listed xv8 W8 19 (IsR2 w.heap.size (2 * i + 2) (us ++ [.slice la l.length lc, .slice la l.length lc])) ∧ Fz listed W8 18 (fun W8 => OwnR w.heap.size W8 (.slice ba (2 * i) bc) (2 * i) us) ∧ Ini4 listed xv8 19 (Value.slice ba (2 * i) bc)) (by kernel_rfl) ?_ ?_ _ _ _ _ (by kernel_rfl) (of_decide_eq_true (by kernel_rfl)) (Down.start _) ⟨fun jx => if jx = 0 then u31 else if jx = 1 then u32 else if jx = 2 then u33 else if jx = 3 then u34 else if jx = 4 then u35 else if jx = 5 then u36 else if jx = 6 then u37 else if jx = 7 then u38 else if jx = 8 then u39 else if jx = 9 then u40 else if jx = 10 then u41 else if jx = 11 then u42 else if jx = 12 then u43 else if jx = 13 then u44 else if jx = 14 then u45 else if jx = 15 then u46 else if jx = 16 then u47 else if jx = 17 then u48 else if jx = 18 then u49 else if jx = 19 then Value.slice ba (2 * i) bc else undef, rfl, KeepsBut.drew _ _, Lst.start _ _ _ _, Fd.start _ _ _ _ _ _, Fe.start _ _ _ _ _, Fe.start _ _ _ _ _, Fz.start (OO.out.below (below0 _)), (fun _ => rfl)⟩
          · go_light
            rintro listed ac W8 ⟨xv8, rfl, hb, hG, hF17, hF18, hF19, hU18, hI19⟩ hD i hi hnl hd
            have hin : i < 20 := hi
            clear hi
            have hcase : i = 0 ∨ i = 1 ∨ i = 2 ∨ i = 3 ∨ i = 4 ∨ i = 5 ∨ i = 6 ∨ i = 7 ∨ i = 8 ∨ i = 9 ∨ i = 10 ∨ i = 11 ∨ i = 12 ∨ i = 13 ∨ i = 14 ∨ i = 15 ∨ i = 16 ∨ i = 17 ∨ i = 18 ∨ i = 19 := by omega
            rcases hcase with rfl | rfl | rfl | rfl | rfl | rfl | rfl | rfl | rfl | rfl | rfl | rfl | rfl | rfl | rfl | rfl | rfl | rfl | rfl | rfl
            · refine wpOp_step rfl (fun K' hK => ?_)
              have f19 : listed.getD 19 false = false := by
                cases hx : listed.getD 19 false with
                | false => rfl
                | true =>
                  have r0 : listed.getD 0 false = true := by have h := hD 19 (by decide) hx; simp [Region.binds] at h; simp [h]
                  rw [getD_false hnl] at r0; cases r0
              have ei19 : xv8 19 = Value.slice ba (2 * i) bc := hI19 f19
              clear hd hin hD
              go_simp
              exact hK _ _ ⟨updV xv8 0 (Value.slice ba (2 * i) bc), by simp [updV, ei19], hb, hG.any gk.out g0.out _ rfl, hF17.step (fun _ h => h) (by decide) (by decide) _, hF18.step (fun _ h => h) (by decide) _, hF19.step (fun _ h => h) (by decide) _, hU18.step (fun h => h) (by decide), hI19.skip (by decide)⟩
            · refine wpOp_step rfl (fun K' hK => ?_)
              clear hd hin hD
              go_simp
              exact hK _ _ ⟨updV xv8 1 (Value.slice (some { block := b0, off := off }) m pc), by simp [updV], hb, hG.any gk.out g1.out _ rfl, hF17.step (fun _ h => h) (by decide) (by decide) _, hF18.step (fun _ h => h) (by decide) _, hF19.step (fun _ h => h) (by decide) _, hU18.step (fun h => h) (by decide), hI19.skip (by decide)⟩
            · refine wpOp_step rfl (fun K' hK => ?_)
              clear hd hin hD
              go_simp
              exact hK _ _ ⟨updV xv8 2 (Value.slice (some { block := b0, off := off }) m pc), by simp [updV], hb, hG.any gk.out g2.out _ rfl, hF17.step (fun _ h => h) (by decide) (by decide) _, hF18.step (fun _ h => h) (by decide) _, hF19.step (fun _ h => h) (by decide) _, hU18.step (fun h => h) (by decide), hI19.skip (by decide)⟩
            · refine wpOp_step rfl (fun K' hK => ?_)
              simp [Region.binds] at hd
              have e2 : xv8 2 = Value.slice (some { block := b0, off := off }) m pc := hG.get g2.out (by simp [hd])
              clear hd hin hD
              go_simp
              exact hK _ _ ⟨updV xv8 3 (.int .i64 (m : Int)), by simp [updV, e2], hb, hG.any gk.out g3.out _ rfl, hF17.step (fun _ h => h) (by decide) (by decide) _, hF18.step (fun _ h => h) (by decide) _, hF19.step (fun _ h => h) (by decide) _, hU18.step (fun h => h) (by decide), hI19.skip (by decide)⟩
            · refine wpOp_step rfl (fun K' hK => ?_)
              simp [Region.binds] at hd
              have e3 : xv8 3 = .int .i64 (m : Int) := hG.get g3.out (by simp [hd])
              have wr1 := wk1
              clear hd hin hD
              go_simp
              exact hK _ _ ⟨updV xv8 4 (.int .i64 ((m : Int) - 1)), by simp [updV, e3], hb, hG.any gk.out g4.out _ rfl, hF17.step (fun _ h => h) (by decide) (by decide) _, hF18.step (fun _ h => h) (by decide) _, hF19.step (fun _ h => h) (by decide) _, hU18.step (fun h => h) (by decide), hI19.skip (by decide)⟩
            · refine wpOp_step rfl (fun K' hK => ?_)
              clear hd hin hD
              go_simp
              exact hK _ _ ⟨updV xv8 5 (Value.int IntKind.i64 ↑i), by simp [updV], hb, hG.any gk.out g5.out _ rfl, hF17.step (fun _ h => h) (by decide) (by decide) _, hF18.step (fun _ h => h) (by decide) _, hF19.step (fun _ h => h) (by decide) _, hU18.step (fun h => h) (by decide), hI19.skip (by decide)⟩
            · refine wpOp_step rfl (fun K' hK => ?_)
              simp [Region.binds] at hd
              have e4 : xv8 4 = .int .i64 ((m : Int) - 1) := hG.get g4.out (by simp [hd])
              have e5 : xv8 5 = Value.int IntKind.i64 ↑i := hG.get g5.out (by simp [hd])
              have wr2 := wk2
              clear hd hin hD
              go_simp
              exact hK _ _ ⟨updV xv8 6 (.int .i64 (k : Int)), by simp [updV, e4, e5], hb, hG.any gk.out g6.out _ rfl, hF17.step (fun _ h => h) (by decide) (by decide) _, hF18.step (fun _ h => h) (by decide) _, hF19.step (fun _ h => h) (by decide) _, hU18.step (fun h => h) (by decide), hI19.skip (by decide)⟩
            · refine wpOp_step rfl (fun K' hK => ?_)
              simp [Region.binds] at hd
              have e1 : xv8 1 = Value.slice (some { block := b0, off := off }) m pc := hG.get g1.out (by simp [hd])
              have e6 : xv8 6 = .int .i64 (k : Int) := hG.get g6.out (by simp [hd])
              have hkm1 := hkm
              clear hd hin hD
              go_simp
              exact hK _ _ ⟨updV xv8 7 (.pointer (some ⟨b0, off + k, none⟩)), by simp [updV, e1, e6], hb, hG.any gk.out g7.out _ rfl, hF17.step (fun _ h => h) (by decide) (by decide) _, hF18.step (fun _ h => h) (by decide) _, hF19.step (fun _ h => h) (by decide) _, hU18.step (fun h => h) (by decide), hI19.skip (by decide)⟩
            · refine wpOp_step rfl (fun K' hK => ?_)
              simp [Region.binds] at hd
              have e7 : xv8 7 = .pointer (some ⟨b0, off + k, none⟩) := hG.get g7.out (by simp [hd])
              have cz := CI.out W8 hb
              clear hd hin hD
              go_simp
              exact hK _ _ ⟨updV xv8 8 (.slice la l.length lc), by simp [updV, e7], hb, hG.any gk.out g8.out _ rfl, hF17.step (fun _ h => h) (by decide) (by decide) _, hF18.step (fun _ h => h) (by decide) _, hF19.step (fun _ h => h) (by decide) _, hU18.step (fun h => h) (by decide), hI19.skip (by decide)⟩
            · refine wpOp_step rfl (fun K' hK => ?_)
              clear hd hin hD
              go_simp
              exact hK _ _ ⟨updV xv8 9 (Value.slice (some { block := b0, off := off }) m pc), by simp [updV], hb, hG.any gk.out g9.out _ rfl, hF17.step (fun _ h => h) (by decide) (by decide) _, hF18.step (fun _ h => h) (by decide) _, hF19.step (fun _ h => h) (by decide) _, hU18.step (fun h => h) (by decide), hI19.skip (by decide)⟩
            · refine wpOp_step rfl (fun K' hK => ?_)
              clear hd hin hD
              go_simp
              exact hK _ _ ⟨updV xv8 10 (Value.slice (some { block := b0, off := off }) m pc), by simp [updV], hb, hG.any gk.out g10.out _ rfl, hF17.step (fun _ h => h) (by decide) (by decide) _, hF18.step (fun _ h => h) (by decide) _, hF19.step (fun _ h => h) (by decide) _, hU18.step (fun h => h) (by decide), hI19.skip (by decide)⟩
            · refine wpOp_step rfl (fun K' hK => ?_)
              simp [Region.binds] at hd
              have e10 : xv8 10 = Value.slice (some { block := b0, off := off }) m pc := hG.get g10.out (by simp [hd])
              clear hd hin hD
              go_simp
              exact hK _ _ ⟨updV xv8 11 (.int .i64 (m : Int)), by simp [updV, e10], hb, hG.any gk.out g11.out _ rfl, hF17.step (fun _ h => h) (by decide) (by decide) _, hF18.step (fun _ h => h) (by decide) _, hF19.step (fun _ h => h) (by decide) _, hU18.step (fun h => h) (by decide), hI19.skip (by decide)⟩
            · refine wpOp_step rfl (fun K' hK => ?_)
              simp [Region.binds] at hd
              have e11 : xv8 11 = .int .i64 (m : Int) := hG.get g11.out (by simp [hd])
              have wr1 := wk1
              clear hd hin hD
              go_simp
              exact hK _ _ ⟨updV xv8 12 (.int .i64 ((m : Int) - 1)), by simp [updV, e11], hb, hG.any gk.out g12.out _ rfl, hF17.step (fun _ h => h) (by decide) (by decide) _, hF18.step (fun _ h => h) (by decide) _, hF19.step (fun _ h => h) (by decide) _, hU18.step (fun h => h) (by decide), hI19.skip (by decide)⟩
            · refine wpOp_step rfl (fun K' hK => ?_)
              clear hd hin hD
              go_simp
              exact hK _ _ ⟨updV xv8 13 (Value.int IntKind.i64 ↑i), by simp [updV], hb, hG.any gk.out g13.out _ rfl, hF17.step (fun _ h => h) (by decide) (by decide) _, hF18.step (fun _ h => h) (by decide) _, hF19.step (fun _ h => h) (by decide) _, hU18.step (fun h => h) (by decide), hI19.skip (by decide)⟩
            · refine wpOp_step rfl (fun K' hK => ?_)
              simp [Region.binds] at hd
              have e12 : xv8 12 = .int .i64 ((m : Int) - 1) := hG.get g12.out (by simp [hd])
              have e13 : xv8 13 = Value.int IntKind.i64 ↑i := hG.get g13.out (by simp [hd])
              have wr2 := wk2
              clear hd hin hD
              go_simp
              exact hK _ _ ⟨updV xv8 14 (.int .i64 (k : Int)), by simp [updV, e12, e13], hb, hG.any gk.out g14.out _ rfl, hF17.step (fun _ h => h) (by decide) (by decide) _, hF18.step (fun _ h => h) (by decide) _, hF19.step (fun _ h => h) (by decide) _, hU18.step (fun h => h) (by decide), hI19.skip (by decide)⟩
            · refine wpOp_step rfl (fun K' hK => ?_)
              simp [Region.binds] at hd
              have e9 : xv8 9 = Value.slice (some { block := b0, off := off }) m pc := hG.get g9.out (by simp [hd])
              have e14 : xv8 14 = .int .i64 (k : Int) := hG.get g14.out (by simp [hd])
              have hkm1 := hkm
              clear hd hin hD
              go_simp
              exact hK _ _ ⟨updV xv8 15 (.pointer (some ⟨b0, off + k, none⟩)), by simp [updV, e9, e14], hb, hG.any gk.out g15.out _ rfl, hF17.step (fun _ h => h) (by decide) (by decide) _, hF18.step (fun _ h => h) (by decide) _, hF19.step (fun _ h => h) (by decide) _, hU18.step (fun h => h) (by decide), hI19.skip (by decide)⟩
            · refine wpOp_step rfl (fun K' hK => ?_)
              simp [Region.binds] at hd
              have e15 : xv8 15 = .pointer (some ⟨b0, off + k, none⟩) := hG.get g15.out (by simp [hd])
              have cz := CI.out W8 hb
              clear hd hin hD
              go_simp
              exact hK _ _ ⟨updV xv8 16 (.slice la l.length lc), by simp [updV, e15], hb, hG.any gk.out g16.out _ rfl, hF17.step (fun _ h => h) (by decide) (by decide) _, hF18.step (fun _ h => h) (by decide) _, hF19.step (fun _ h => h) (by decide) _, hU18.step (fun h => h) (by decide), hI19.skip (by decide)⟩
            · refine wpOp_step rfl (fun K' hK => ?_)
              simp [Region.binds] at hd
              have e8 : xv8 8 = .slice la l.length lc := hG.get g8.out (by simp [hd])
              have e16 : xv8 16 = .slice la l.length lc := hG.get g16.out (by simp [hd])
              clear hd hin hD
              go_simp
              exact hK _ _ ⟨updV xv8 17 (.slice (some ⟨W8.heap.size, 0, none⟩) 2 2), by simp [updV, e8, e16], JS.out _ _ (below_alloc _ _) hb, hG.any gk.out g17.out _ trivial, Fd.new (two_srcV _ _ _), hF18.on st18.out (below_alloc _ _) (by decide) _, hF19.on st19.out (below_alloc _ _) (by decide) _, hU18.step (su18.out _ _ (below_alloc _ _)) (by decide), hI19.skip (by decide)⟩
            · refine wpOp_step rfl (fun K' hK => ?_)
              simp [Region.binds] at hd
              have e0 : xv8 0 = Value.slice ba (2 * i) bc := hG.get g0.out (by simp [hd])
              have l17 : listed.getD 17 false = true := by simp [hd]
              have m17 := hF17.get l17 hnl
              have f19 : listed.getD 19 false = false := by
                cases hx : listed.getD 19 false with
                | false => rfl
                | true =>
                  have r18 : listed.getD 18 false = true := by have h := hD 19 (by decide) hx; simp [Region.binds] at h; simp [h]
                  rw [getD_false hnl] at r18; cases r18
              have u18 := hU18.get hnl
              clear hd hin hD
              refine step_addR2 W8 rfl (.tmp 31) (.tmp 48) rfl w.heap.size (.slice ba (2 * i) bc) (2 * i) us e0 u18 _ 2 [.slice la l.length lc, .slice la l.length lc] rfl m17 (by intro u hu; simp at hu; rw [hu]; rfl) hi9 (Nat.le_trans SZ.out hb.size) ?_
              intro ao' cap' w' ho hg
              exact hK _ _ ⟨updV xv8 18 (.slice ao' (2 * i + 2) cap'), by simp [updV, Act.put], hb.trans (KeepsBut.ofGrownO hg (fun q hq => .inl hq)), hG.any gk.out g18.out _ trivial, Fd.off hnl, Fe.new (⟨ao', cap', rfl, ho⟩), Fe.yet f19 (by decide) _, Fz.off hnl, hI19.skip (by decide)⟩
            · refine wpOp_step rfl (fun K' hK => ?_)
              simp [Region.binds] at hd
              have l18 : listed.getD 18 false = true := by simp [hd]
              have m18 := hF18 l18
              clear hd hin hD
              go_simp
              exact hK _ _ ⟨updV xv8 19 (xv8 18), by simp [updV], hb, hG.any gk.out g19.out _ trivial, hF17.step (fun _ h => h) (by decide) (by decide) _, hF18.step (fun _ h => h) (by decide) _, Fe.new (m18), hU18.step (fun h => h) (by decide), Ini4.done hnl⟩
          · rintro listed ac W8 ⟨xv8, rfl, hb, hG, hF17, hF18, hF19, hU18, hI19⟩ hall
            have m19 : Hid ((IsR2 w.heap.size (2 * i + 2) (us ++ [.slice la l.length lc, .slice la l.length lc])) (xv8 19) W8) := hF19 (hall 19 (by decide))
            have XW : Hid ((fun W8 => KeepsBut (fun z => (Value.slice ba (2 * i) bc).ownBlock = some z) wr W8) W8) := hb
            clear hall hG hb gk JS g0 g1 g2 g3 g4 g5 g6 g7 g8 g9 g10 g11 g12 g13 g14 g15 g16 g17 g18 g19 hF17 st17 hF18 st18 hF19 st19 hU18 su18 hI19
            obtain ⟨a8, c8, e8, hO8⟩ := m19.out
            rw [e8] at hO8 ⊢
            have O8 : Hid (OwnR w.heap.size W8 (.slice a8 (2 * i + 2) c8) (2 * i + 2) (us ++ [.slice la l.length lc, .slice la l.length lc])) := hO8
            have X8 : Hid (Below w.heap.size w W8) := XX.out.trans (XW.out.below SZ.out (fun k hk => (OO.out.lt k hk).1))
            have U8 : Hid (LsZ w (us ++ [.slice la l.length lc, .slice la l.length lc]) (bl ++ [l, l])) := by
              have h1 := (UU.out.snoc LZ.out).snoc LZ.out
              rw [List.append_assoc, List.append_assoc] at h1
              exact h1
            have I8 : Hid (∀ x ∈ bl ++ [l, l], x ∈ ls) := fun x hx => by
              rcases List.mem_append.1 hx with h | h
              · exact IN.out x h
              · have : x = l := by simpa using h
                rw [this]
                exact List.mem_of_getElem? HL.out
            have A8 : Hid (∀ (j : Nat) (x : List Int), m ≤ j + (i + 1) → ls[j]? = some x → x ∈ bl ++ [l, l]) := fun j x h1 h2 => by
              by_cases hj : m ≤ j + i
              · exact List.mem_append_left _ (AL.out j x hj h2)
              · have hjk : j = k := by have := HK.out; omega
                subst hjk
                rw [HL.out] at h2
                obtain rfl := Option.some.inj h2
                simp
            have F8 : Hid ((bl ++ [l, l]).flatten.length + 2 * (ls.take (m - (i + 1))).flatten.length ≤ 2 * ls.flatten.length) := by
              have h1 := FL.out
              have h2 := HK.out
              have e1 : m - i = k + 1 := by omega
              have e2 : m - (i + 1) = k := by omega
              rw [e1, FT.out] at h1
              unfold Hid
              rw [e2, List.flatten_append, List.length_append]
              simp only [List.flatten_cons, List.flatten_nil, List.append_nil, List.length_append]
              omega
            obtain ⟨w8, hw8⟩ : ∃ x, x = W8 := ⟨_, rfl⟩
            subst hw8
            clear m19 hO8 e8 XW CI FT HL HK SZ OO UU IN AL FL XX LZ wk1 wk2 ci
            go_wp2
            go_roundw
            case rel => exact ⟨i + 1, a8, c8, _, _, by omega, by go_num, by (congr 1), O8, U8, I8, A8, F8, X8⟩
            case measure => simp [intOf]; omega
        · obtain rfl : m = i := by omega
          have SAME : Hid (∀ l, l ∈ ls ↔ l ∈ bl) := fun l => ⟨fun h => by
            obtain ⟨j, hj⟩ := List.mem_iff_getElem?.1 h
            exact AL.out j l (by omega) hj, IN.out l⟩
          have FBL : Hid (bl.flatten.length ≤ 800) := by
            have h1 := FL.out
            have h2 := BB.out
            unfold Hid
            omega
          have HUL : Hid (us.length = 2 * m) := OO.out.len
          have HFLS : Hid (ls.flatten.length ≤ 400) := by have := BB.out; unfold Hid; omega
          have HVL : Hid (vs.length ≤ 400) := by unfold Hid; rw [HM.out]; exact hm4
          have HWL : Hid (ws.length ≤ 400) := by have h1 := HZQ.out.1; have h2 := BM.out; unfold Hid; omega
          have HFMS : Hid (ms.flatten.length ≤ 400) := by have := BM.out; unfold Hid; omega
          clear FL AL IN
          go_wp2_with fail
          refine (kreach_any n _ vs ls wr (HP0.out.below XX.out) (HZ.out.below XX.out) (by have := HVL.out; omega) (by have := HFLS.out; omega) (by have := HSM.out; omega)).mono ?_
          rintro e w2 ⟨a2, n2, c2, r2, rfl, ho2, hr2, hm2, hb2⟩
          have X2 : Hid (Below w.heap.size w w2) := on_below XX.out hb2
          have O2 : Hid (OwnZ wr.heap.size w2 (.slice a2 n2 c2) n2 r2) := ho2
          have R2 : Hid (r2.Pairwise (· < ·)) := hr2
          have M2 : Hid (∀ x, x ∈ r2 ↔ Fol (fitF n ls) x) := hm2
          have OO2 : Hid (OwnR w.heap.size w2 (.slice ba (2 * m) bc) (2 * m) us) := OO.out.below hb2
          obtain ⟨a2', c2', e2, hc1, hc2, -⟩ := owned_slice ho2
          injection e2 with e21 _ e23
          subst e21
          subst e23
          unfold maxLen at hc2
          clear ho2 hr2 hm2 hb2 OO XX
          have SL2 : Hid (Sl 1 w2 (.slice ba (2 * m) bc) us.length us) := by
            have h1 := OO2.out.sl
            unfold Hid
            rw [HUL.out]
            exact h1
          go_wp2_with fail
          refine (kreach_any n _ us bl w2 SL2.out (UU.out.below X2.out) (by have := HUL.out; omega) (by have := FBL.out; omega) (by have := HSM.out; omega)).mono ?_
          rintro e w3 ⟨a3, n3, c3, r3, rfl, ho3, hr3, hm3, hb3⟩
          obtain rfl : r3 = r2 := rise_unique hr3 R2.out fun x => ((hm3 x).trans (fol_same SAME.out x).symm).trans (M2.out x).symm
          have X3 : Hid (Below w.heap.size w w3) := on_below X2.out hb3
          have O23 : Hid (OwnZ wr.heap.size w3 (.slice a2 n2 c2) n2 r3) := O2.out.below hb3
          have O33 : Hid (OwnZ w2.heap.size w3 (.slice a3 n3 c3) n3 r3) := ho3
          have OO3 : Hid (OwnR w.heap.size w3 (.slice ba (2 * m) bc) (2 * m) us) := OO2.out.below hb3
          have SQ3 : Hid (Sl 1 w3 qv ws.length ws) := HQ.out.below X3.out
          have ONE : Hid (∀ u ∈ ws, u.oneCell' = true) := fun u hu => by
            obtain ⟨l, hl⟩ := lsz_one HZQ.out hu
            exact zs_oneCell hl
          have hn9 : 2 * m + ws.length ≤ 1000000000 := by have := HWL.out; omega
          clear ho3 hr3 hm3 hb3 O2 OO2 SL2
          go_wp2_with (at_builtin; refine wpList_addRs _ rfl (.tmp 58) (.tmp 59) rfl w.heap.size (.slice ba (2 * m) bc) (2 * m) us rfl OO3.out _ ws.length ws rfl SQ3.out ONE.out hn9 X3.out.size ?_; intro a4 k4 w4 ho4 hg4)
          have X4 : Hid (Below w.heap.size w w4) := X3.out.grown hg4 X3.out.size (fun k hk => (OO3.out.lt k hk).1)
          have KZ : ∀ {B n : Nat} {v : Value} {l : List Int}, OwnZ B w3 v n l → OwnZ B w4 v n l := fun h => h.kept fun q hq => by
            obtain ⟨cs, hc⟩ := owns_type' h q hq
            exact grown_kind OO3.out hg4 hc (by decide)
          have O24 : Hid (OwnZ wr.heap.size w4 (.slice a2 n2 c2) n2 r3) := KZ O23.out
          have O34 : Hid (OwnZ w2.heap.size w4 (.slice a3 n3 c3) n3 r3) := KZ O33.out
          have SL4 : Hid (Sl 1 w4 (.slice a4 (2 * m + ws.length) k4) (us ++ ws).length (us ++ ws)) := by
            have h1 := OwnR.sl ho4
            unfold Hid
            rw [List.length_append, HUL.out]
            exact h1
          clear KZ ho4 hg4 O23 O33 OO3 SQ3
          go_wp2_with fail
          refine (kreach_any n _ (us ++ ws) (bl ++ ms) w4 SL4.out ((UU.out.append HZQ.out).below X4.out) (by have h1 := HUL.out; have h2 := HWL.out; rw [List.length_append]; omega) (by have h1 := FBL.out; have h2 := HFMS.out; rw [List.flatten_append, List.length_append]; omega) (by have := HSM.out; omega)).mono ?_
          rintro e w5 ⟨a5, n5, c5, r5, rfl, ho5, hr5, hm5, hb5⟩
          have SUB : Hid (∀ x ∈ r3, x ∈ r5) := fun x hx => (hm5 x).2 (((M2.out x).1 hx).mono fun l hl => by
            rw [fitF_mem] at hl ⊢
            exact ⟨List.mem_append_left _ ((SAME.out l).1 hl.1), hl.2⟩)
          have X5 : Hid (Below w.heap.size w w5) := on_below X4.out hb5
          have Z25 : Hid (Zs w5 (.slice a2 n2 c2) r3) := (O24.out.below hb5).zs
          have Z35 : Hid (Zs w5 (.slice a3 n3 c3) r3) := (O34.out.below hb5).zs
          have Z55 : Hid (Zs w5 (.slice a5 n5 c5) r5) := ho5.zs
          have L2 : Hid (r3.length = n2) := O24.out.len
          clear ho5 hr5 hm5 hb5 O24 O34 SL4
          go_wp2
          go_loopw [64] (fun iv wr => ∃ i : Nat, i ≤ n2 ∧ iv = .int .i64 i ∧ wr = w5) (fun iv _ => n2 - (intOf iv).toNat)
          case atStart => exact ⟨0, by omega, rfl, rfl⟩
          case round =>
            obtain ⟨i, hi, rfl, rfl⟩ := hrel
            obtain ⟨w5, hw5⟩ : ∃ x, x = wr := ⟨_, rfl⟩
            subst hw5
            by_cases hlt : i < n2
            · obtain ⟨z, hz⟩ : ∃ z, r3[i]? = some z := ⟨_, List.getElem?_eq_getElem (by rw [L2.out]; exact hlt)⟩
              have HZ2 : Zs w5 (.slice a2 n2 c2) r3 := Z25.out
              obtain ⟨b0, off, rfl, ci⟩ := zs_at HZ2 (Below.refl _ _) hz
              have d : decide (z ∈ r5) = true := decide_eq_true (SUB.out z (List.mem_of_getElem? hz))
              clear hz HZ2
              go_wp2_with fail
              refine (rhas_any z _ r5 w5 Z55.out).mono ?_
              rintro e w6 ⟨rfl, rfl⟩
              rw [d]
              clear d
              go_wp2
              go_roundw
              case rel => exact ⟨i + 1, by omega, by go_num, by simp⟩
              case measure => simp [intOf]; omega
            · obtain rfl : n2 = i := by omega
              go_wp2_with fail
              refine (same9_any _ _ r3 r3 w5 Z25.out Z35.out).mono ?_
              rintro e w6 ⟨rfl, hb6⟩
              rw [sameI_self]
              have X6 : Hid (Below w.heap.size w w6) := on_below X5.out hb6
              clear hb6
              go_wp2
              go_ret
              exact ⟨rfl, X6.out⟩

end Go.Proofs.Ytpffbfagabelfaa
