/-
  One block put upon another one; the walks of the block statements' first look, and of 'big'.
-/
import Derived.Test.YtpnjednghpbccaaBlkR
namespace Go.Proofs.Ytpnjednghpbccaa
open Go.RowKit
set_option linter.unusedVariables false

/-- A row of one. -/
theorem Sl.one {w : World} {p : Nat} {v : Value} (hc : w.cell? ⟨p, 0, none⟩ = some v) : Sl 1 w (.slice (some ⟨p, 0, none⟩) 1 1) [v].length [v] := by
  refine ⟨rfl, _, _, rfl, Nat.le_refl _, by simp [maxLen], fun h => by simp at h, .inr ⟨_, _, rfl, ?_⟩⟩
  intro j u hj
  have : j = 0 := by have := (List.getElem?_eq_some_iff.1 hj).1; simp at this; omega
  subst this
  simp at hj
  subst hj
  exact hc

theorem off_mem1 {q : Nat} {v : Value} (h : Off q v) : ∀ u ∈ [v], Off q u := by
  intro u hu
  simp at hu
  subst hu
  exact h

theorem fit_one {n : Nat} {b : List UInt8} (h : b.length = n) : fitB n [b] = true := by simp [fitB, h]
theorem fit_one_no {n : Nat} {b : List UInt8} (h : b.length ≠ n) : fitB n [b] = false := by simp [fitB, h]

/-- One block, as long, that lies in a row of one. -/
theorem xor_one (q cap p : Nat) (pre post : List Value) (l b : List UInt8) (vb : Value) (w : World) (hB : Blk w q pre l post) (hc : l.length ≤ cap) (hm : cap ≤ maxLen)
    (hp : w.cell? ⟨p, 0, none⟩ = some vb) (hb : Bs w vb b) (hpq : p ≠ q) (ho : Off q vb) (hlen : b.length = l.length) (n off : Nat) (hn : n = l.length) (hoff : off = pre.length) :
    Calls Try.prog 19 #[.slice (some ⟨q, off, none⟩) n cap, .slice (some ⟨p, 0, none⟩) 1 1] w fun e w' => e = .returned (.bool true) ∧ Blk w' q pre (xorL l b) post ∧ w.grownBy w' (some q) ∧ w'.heap.size = w.heap.size := by
  subst hn; subst hoff
  exact xor_yes q cap pre post l _ [vb] [b] w hB hc hm (Sl.one hp) (parts_one hb) (off_at hpq) (off_mem1 ho) (fit_one hlen)

/-- One block, as long, whose row was just laid. -/
theorem xor_top (q cap : Nat) (pre post : List Value) (l b : List UInt8) (vb : Value) (w : World) (hB : Blk w q pre l post) (hc : l.length ≤ cap) (hm : cap ≤ maxLen)
    (hb : Bs w vb b) (ho : Off q vb) (hlen : b.length = l.length) (n off r : Nat) (hn : n = l.length) (hoff : off = pre.length) (hr : r = w.heap.size) :
    Calls Try.prog 19 #[.slice (some ⟨q, off, none⟩) n cap, .slice (some ⟨r, 0, none⟩) 1 1] (w.alloc (.cells #[vb] 25)) fun e w' => e = .returned (.bool true) ∧ Blk w' q pre (xorL l b) post ∧ w.grownBy w' (some q) ∧ w'.heap.size = w.heap.size + 1 := by
  subst hr
  have hlt := hB.lt
  refine (xor_one q cap w.heap.size pre post l b vb _ (hB.below (below_alloc _ _)) hc hm (by rw [World.cell?_alloc_new]; rfl) (hb.below (below_alloc _ _)) (by omega) ho hlen n off hn hoff).mono ?_
  rintro e w' ⟨rfl, h1, h2, h3⟩
  exact ⟨rfl, h1, (World.grownBy_alloc _ _ _).trans h2, by rw [h3]; simp⟩

/-- Xor of one that isn't as long, whose row was just laid. -/
theorem xor_top_no (a0 : Option Addr) (n cap : Nat) (b : List UInt8) (vb : Value) (w : World) (hb : Bs w vb b) (hlen : b.length ≠ n) (r : Nat) (hr : r = w.heap.size) :
    Calls Try.prog 19 #[.slice a0 n cap, .slice (some ⟨r, 0, none⟩) 1 1] (w.alloc (.cells #[vb] 25)) fun e w' => e = .returned (.bool false) ∧ Below w.heap.size w w' := by
  subst hr
  refine (xor_no a0 n cap _ [vb] [b] _ (Sl.one (by rw [World.cell?_alloc_new]; rfl)) (parts_one (hb.below (below_alloc _ _))) (fit_one_no hlen)).mono ?_
  rintro e w' ⟨rfl, rfl⟩
  exact ⟨rfl, below_alloc _ _⟩

theorem conv_bytes {W : World} {v : Value} {l : List UInt8} (h : Bs W v l) : (convert 25 9 v).run Try.prog W = .ok (.string (str l)) W := by
  obtain ⟨hl, ao, cap, rfl, hnc, hcm, hn0, hc⟩ := h
  rw [run_convert_bytes_string W 25 9 5 ao l.length cap Try.underlying25 Try.underlying5 Try.underlying9]
  cases ao with
  | none =>
    have : l = [] := List.eq_nil_of_length_eq_zero (by have := hn0 rfl; omega)
    subst this
    simp [Conv.bytesToString, Sem.run_pure, str]
    rfl
  | some a =>
    have hld : (loadCells a l.length).run Try.prog W = .ok ((l.map fun b => (b.toNat : Int)).map (Value.int .u8)).toArray W := by
      have e : (l.map fun b => (b.toNat : Int)).map (Value.int .u8) = l.map bv := by rw [List.map_map]; rfl
      rw [e]
      have h1 := run_loadCells_list (P := Try.prog) W a (l.map bv) ?_
      · rw [List.length_map] at h1
        exact h1
      · intro j u hj
        rcases hc with h0 | ⟨b, off, hao, hc⟩
        · have := (List.getElem?_eq_some_iff.1 hj).1
          simp at this
          omega
        · obtain rfl := Option.some.inj hao
          rw [Addr.add_lit]
          exact hc j u hj
    rw [run_bytesToString W a l.length cap _ hld, foldl_push]
    simp [str]

set_option maxRecDepth 100000 in
set_option maxHeartbeats 1000000 in
theorem speaks3_any (w : World) : Calls Try.prog 12 #[] w fun e w' => e = .returned (.bool true) ∧ Below w.heap.size w w' := by
  have hst := str_toList
  go_enter Try.func12, Try.ntmps12
  go_wp2_with fail
  refine (xor_top w.heap.size 2 [] [] [3, 3] [1, 2] _ _ ((Blk.lit w _ [3, 3] _ rfl rfl).below (below_alloc _ _)) (by simp) (by simp [maxLen]) (Bs.lit _ _ _ _ _ _ _ (by simp) rfl rfl (by simp)) (off_at (by omega)) rfl _ _ _ rfl rfl (by simp)).mono ?_
  rintro e w2 ⟨rfl, hb2, hg2, hs2⟩
  have B2 : Hid (Blk w2 w.heap.size [] [2, 1] []) := hb2
  have X2 : Hid (Below w.heap.size w w2) := below_grown (((Below.refl _ _).alloc (Nat.le_refl _) _).alloc (by simp) _) hg2 (by simp; omega) (Nat.le_refl _)
  clear hb2 hg2 hs2
  go_wp2_with fail
  refine (xor_top_no _ 2 2 [1] _ _ (Bs.lit w2 _ _ _ _ _ _ rfl rfl rfl (by simp)) (by simp) _ (by simp)).mono ?_
  rintro e w3 ⟨rfl, hb3⟩
  have B3 : Hid (Blk w3 w.heap.size [] [2, 1] []) := (B2.out.below (below_alloc _ _)).below hb3
  have X3 : Hid (Below w.heap.size w w3) := (X2.out.alloc X2.out.size _).trans (hb3.mono (by have := X2.out.size; simp; omega))
  clear hb3 B2 X2
  have k1 := conv_bytes (B3.out.bs0 2 2 rfl (by simp) (by simp [maxLen]))
  have e21 : ([2, 1] : List UInt8) = [2, 1] := rfl
  go_wp2_with fail
  refine (zero_any _ [0, 0] _ (Bs.lit _ _ _ _ _ _ _ (by simp) rfl rfl (by simp))).mono ?_
  rintro e w4 ⟨rfl, hw4⟩
  have B4 : Hid (Blk w4 w.heap.size [] [2, 1] []) := by rw [hw4]; exact B3.out.below (below_alloc _ _)
  have X4 : Hid (Below w.heap.size w w4) := by rw [hw4]; exact X3.out.alloc X3.out.size _
  clear hw4 B3 X3 k1
  go_wp2_with fail
  refine (zero_any _ [2, 1] _ (B4.out.bs0 2 2 rfl (by simp) (by simp [maxLen]))).mono ?_
  rintro e w5 ⟨rfl, rfl⟩
  go_wp2
  go_ret
  exact ⟨rfl, X4.out⟩

set_option maxHeartbeats 400000 in
/-- big: it only reads. -/
theorem big3_any (pv : Value) (vs : List Value) (ls : List (List UInt8)) (w : World) (hp : Sl 1 w pv vs.length vs) (hps : Parts w vs ls) :
    Calls Try.prog 13 #[pv] w fun e w' => e = .returned (.bool ((ls.any fun l => decide (200 < l.length)) || decide (50 < ls.length))) ∧ w' = w := by
  obtain ⟨-, ao, cap, rfl, h2, h3, -, h5⟩ := hp
  unfold maxLen at h3
  obtain ⟨hlen, hpart⟩ := hps
  obtain ⟨m, hm⟩ : ∃ m, vs.length = m := ⟨_, rfl⟩
  rw [hm] at h2 h5 ⊢
  have Hm : Hid (vs.length = m) := hm
  have Hl : Hid (ls.length = m) := by unfold Hid; omega
  clear hm hlen
  go_enter Try.func13, Try.ntmps13
  go_wp2
  go_loop [7] (fun i => ∃ k : Nat, k ≤ m ∧ i = .int .i64 k ∧ (ls.any fun l => decide (200 < l.length)) = (ls.drop k).any fun l => decide (200 < l.length)) (fun i => m - (intOf i).toNat)
  case atStart => exact ⟨0, by omega, rfl, rfl⟩
  case round =>
    obtain ⟨k, hk, rfl, he⟩ := hrel
    have HE : Hid ((ls.any fun l => decide (200 < l.length)) = (ls.drop k).any fun l => decide (200 < l.length)) := he
    clear he
    by_cases hlt : k < m
    · have hkv : k < vs.length := by rw [Hm.out]; exact hlt
      have hkl : k < ls.length := by rw [Hl.out]; exact hlt
      rcases h5 with h0 | ⟨b, off, rfl, hc⟩
      · omega
      have hck := hc k vs[k] (List.getElem?_eq_getElem hkv)
      have hb := hpart k vs[k] ls[k] (List.getElem?_eq_getElem hkv) (List.getElem?_eq_getElem hkl)
      obtain ⟨-, ao', c', hv, g2, g3, -, -⟩ := hb
      rw [hv] at hck
      unfold maxLen at g3
      have HD : Hid (((ls.drop k).any fun l => decide (200 < l.length)) = (decide (200 < ls[k].length) || (ls.drop (k + 1)).any fun l => decide (200 < l.length))) := by
        unfold Hid
        rw [List.drop_eq_getElem_cons hkl, List.any_cons]
      clear hv hc hpart
      generalize ls[k].length = q at *
      by_cases hq : 200 < q
      · have hd : decide (200 < q) = true := by simp [hq]
        rw [hd] at HD
        clear hd
        go_wp2
        go_ret
        exact ⟨ret_bool (by rw [HE.out, HD.out, Bool.true_or, Bool.true_or]), rfl⟩
      · have hd : decide (200 < q) = false := by simp; omega
        rw [hd] at HD
        clear hd
        go_wp2
        go_round
        case rel => exact ⟨k + 1, by omega, by go_num, by rw [HE.out, HD.out, Bool.false_or]⟩
        case measure => simp [intOf]; omega
    · have HZ : Hid ((ls.any fun l => decide (200 < l.length)) = false) := by
        unfold Hid
        rw [HE.out, List.drop_eq_nil_of_le (by rw [Hl.out]; omega)]
        rfl
      have HY : Hid (decide (50 < ls.length) = decide ((50 : Int) < (m : Int))) := by
        unfold Hid
        rw [Hl.out]
        simp
        omega
      go_wp2
      go_ret
      exact ⟨ret_bool (by rw [HZ.out, HY.out, Bool.false_or]), rfl⟩

end Go.Proofs.Ytpnjednghpbccaa
