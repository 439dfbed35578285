/-
  The walk of the document's own Parse.
-/
import Derived.Test.YtijonjiioeahhaaFrH
import Derived.Deep.RegionLaw
namespace Go.Proofs.Ytijonjiioeahhaa
open Go.RowKit
set_option linter.unusedVariables false

/-- The packet that a frame's bytes are, its payload in block q, with room k. -/
def packW (l : List UInt8) (q k : Nat) : Array Value := #[.int .u64 (num l 3 8), .int .i64 (num l 11 4), .int .i64 (num l 15 2), .int .i64 (num l 17 1), .int .i64 (num l 18 2), .int .i64 (num l 20 2), .int .i64 (asInt (num l 22 8)), .int .u64 (num l 30 8), .slice (some ⟨q, 0, none⟩) (num l 15 2) k]

/-- What the document's Parse answers. -/
def RP (l : List UInt8) (r : Array Value) (W : World) : Prop :=
  (parseE l ≠ 0 ∧ r = #[.int .u64 0, .int .i64 0, .int .i64 0, .int .i64 0, .int .i64 0, .int .i64 0, .int .i64 0, .int .u64 0, .slice none 0 0]) ∨ (parseE l = 0 ∧ ∃ q k, r = packW l q k ∧ Bs W (.slice (some ⟨q, 0, none⟩) (num l 15 2) k) (payB l))

theorem num_one (l : List UInt8) (a : Nat) (h : a < l.length) : num l a 1 = (l[a]).toNat := by
  unfold num
  rw [List.drop_eq_getElem_cons h, List.take_succ_cons, List.take_zero]
  have := (l[a]).toNat_lt
  show (0 * 256 + (l[a]).toNat) % 18446744073709551616 = _
  omega

theorem ret_rp {l : List UInt8} {n : Int} {r : Array Value} {W w : World} (h : parseE l = n) (hr : RP l r W) (hb : Below w.heap.size w W) :
    ∃ r', Ending.returned (.tuple #[.agg r, .int .i64 n]) = .returned (.tuple #[.agg r', .int .i64 (parseE l)]) ∧ RP l r' W ∧ Below w.heap.size w W := ⟨r, by rw [h], hr, hb⟩

theorem rp_no {l : List UInt8} {n : Int} {W : World} (h : parseE l = n) (hn : n ≠ 0) : RP l #[.int .u64 0, .int .i64 0, .int .i64 0, .int .i64 0, .int .i64 0, .int .i64 0, .int .i64 0, .int .u64 0, .slice none 0 0] W := .inl ⟨by rw [h]; exact hn, rfl⟩

theorem pe_short {l : List UInt8} (h : l.length < 42) : parseE l = 4 := by unfold parseE; rw [if_pos h]
theorem pe_head {l : List UInt8} (h : ¬ l.length < 42) (hh : headE l ≠ 0) : parseE l = headE l := by unfold parseE; rw [if_neg h, if_pos hh]
theorem pe_len {l : List UInt8} (h : ¬ l.length < 42) (hh : headE l = 0) (hl : l.length ≠ 42 + num l 15 2) : parseE l = 7 := by unfold parseE; rw [if_neg h, if_neg (by rw [hh]; simp), if_pos hl]
theorem pe_sum {l : List UInt8} (h : ¬ l.length < 42) (hh : headE l = 0) (hl : l.length = 42 + num l 15 2) (hr : rightB l = false) : parseE l = 8 := by unfold parseE; rw [if_neg h, if_neg (by rw [hh]; simp), if_neg (by rw [← hl]; simp), if_pos hr]
theorem pe_ok {l : List UInt8} (h : ¬ l.length < 42) (hh : headE l = 0) (hl : l.length = 42 + num l 15 2) (hr : rightB l = true) : parseE l = 0 := by unfold parseE; rw [if_neg h, if_neg (by rw [hh]; simp), if_neg (by rw [← hl]; simp), if_neg (by rw [hr]; simp)]

theorem rp_end {w W W' : World} {T : List UInt8} {z0 z1 z2 z3 z4 z5 z7 : Nat} {z6 : Int} {qq kk : Nat} (NW : Nine W' w.heap.size 0 0 0 0 0 0 0 0 (.slice none 0 0)) (hX : Below w.heap.size w W') (hlt : w.heap.size < W.heap.size) (hown : IsOwn W.heap.size (payB T) (.slice (some ⟨qq, 0, none⟩) (payB T).length kk) W') (PE : parseE T = 0)
    (PW : packW T = fun q k => #[.int .u64 (z0 : Nat), .int .i64 (z1 : Nat), .int .i64 (z2 : Nat), .int .i64 (z3 : Nat), .int .i64 (z4 : Nat), .int .i64 (z5 : Nat), .int .i64 z6, .int .u64 (z7 : Nat), .slice (some ⟨q, 0, none⟩) z2 k]) (PL : (payB T).length = z2) (HZ2 : num T 15 2 = z2) :
    ∃ r', Ending.returned (.tuple #[.agg #[.int .u64 (z0 : Nat), .int .i64 (z1 : Nat), .int .i64 (z2 : Nat), .int .i64 (z3 : Nat), .int .i64 (z4 : Nat), .int .i64 (z5 : Nat), .int .i64 z6, .int .u64 (z7 : Nat), (.slice (some ⟨qq, 0, none⟩) (payB T).length kk)], .int .i64 0]) = .returned (.tuple #[.agg r', .int .i64 (parseE T)]) ∧ RP T r' (((((((((W'.setCell ⟨w.heap.size, 0, none⟩ (.int .u64 (z0 : Nat))).setCell ⟨w.heap.size, 1, none⟩ (.int .i64 (z1 : Nat))).setCell ⟨w.heap.size, 2, none⟩ (.int .i64 (z2 : Nat))).setCell ⟨w.heap.size, 3, none⟩ (.int .i64 (z3 : Nat))).setCell ⟨w.heap.size, 4, none⟩ (.int .i64 (z4 : Nat))).setCell ⟨w.heap.size, 5, none⟩ (.int .i64 (z5 : Nat))).setCell ⟨w.heap.size, 6, none⟩ (.int .i64 z6)).setCell ⟨w.heap.size, 7, none⟩ (.int .u64 (z7 : Nat))).setCell ⟨w.heap.size, 8, none⟩ (.slice (some ⟨qq, 0, none⟩) (payB T).length kk)) ∧ Below w.heap.size w (((((((((W'.setCell ⟨w.heap.size, 0, none⟩ (.int .u64 (z0 : Nat))).setCell ⟨w.heap.size, 1, none⟩ (.int .i64 (z1 : Nat))).setCell ⟨w.heap.size, 2, none⟩ (.int .i64 (z2 : Nat))).setCell ⟨w.heap.size, 3, none⟩ (.int .i64 (z3 : Nat))).setCell ⟨w.heap.size, 4, none⟩ (.int .i64 (z4 : Nat))).setCell ⟨w.heap.size, 5, none⟩ (.int .i64 (z5 : Nat))).setCell ⟨w.heap.size, 6, none⟩ (.int .i64 z6)).setCell ⟨w.heap.size, 7, none⟩ (.int .u64 (z7 : Nat))).setCell ⟨w.heap.size, 8, none⟩ (.slice (some ⟨qq, 0, none⟩) (payB T).length kk)) := by
  obtain ⟨q2, k2, post, e2, hq2, hbl, hle, hcm, hcap⟩ := hown
  injection e2 with e2 _ e4
  injection e2 with e2
  injection e2 with e2 _ _
  subst e2; subst e4
  refine ⟨packW T qq kk, by rw [PW, PE, PL], .inr ⟨PE, qq, kk, rfl, ?_⟩, below9 hX (Nat.le_refl _) _ _ _ _ _ _ _ _ _⟩
  have hne : qq ≠ w.heap.size := by omega
  have hk : ∀ (W : World) (i : Nat) (u : Value), (W.setCell ⟨w.heap.size, i, none⟩ u).heap[qq]? = W.heap[qq]? := fun W i u => Below.heap_setCell W ⟨w.heap.size, i, none⟩ u _ hne
  refine (hbl.kept ?_).bs0 _ _ (by rw [HZ2, PL]) (by omega) hcm
  rw [hk, hk, hk, hk, hk, hk, hk, hk, hk]

set_option maxRecDepth 100000 in
set_option maxHeartbeats 4000000 in
/-- The document's Parse. -/
theorem rparse_any (v : Value) (l : List UInt8) (w : World) (hl : Bs w v l) (hl2 : l.length ≤ 1000000) :
    Calls Try.prog 44 #[v] w fun e w' => ∃ r, e = .returned (.tuple #[.agg r, .int .i64 (parseE l)]) ∧ RP l r w' ∧ Below w.heap.size w w' := by
  have HB : Hid (Bs w v l) := hl
  obtain ⟨-, a0, k0, rfl, hk0, hk1, -, hcell⟩ := hl
  unfold maxLen at hk1
  have N1 : Hid (Nine (w.alloc (.cells #[.int .u64 0, .int .i64 0, .int .i64 0, .int .i64 0, .int .i64 0, .int .i64 0, .int .i64 0, .int .u64 0, .slice none 0 0] 67)) w.heap.size 0 0 0 0 0 0 0 0 (.slice none 0 0)) := nine_new w 67 0 0 0 0 0 0 0 0 (.slice none 0 0)
  have X1 : Hid (Below w.heap.size w (w.alloc (.cells #[.int .u64 0, .int .i64 0, .int .i64 0, .int .i64 0, .int .i64 0, .int .i64 0, .int .i64 0, .int .u64 0, .slice none 0 0] 67))) := below_alloc _ _
  have FZ1 : Hid (∀ i, (w.alloc (.cells #[.int .u64 0, .int .i64 0, .int .i64 0, .int .i64 0, .int .i64 0, .int .i64 0, .int .i64 0, .int .u64 0, .slice none 0 0] 67)).frozen? ⟨w.heap.size, i, none⟩ = false) := fun i => by simp
  have SZ : Hid ((w.alloc (.cells #[.int .u64 0, .int .i64 0, .int .i64 0, .int .i64 0, .int .i64 0, .int .i64 0, .int .i64 0, .int .u64 0, .slice none 0 0] 67)).heap.size = w.heap.size + 1) := by unfold Hid; simp
  by_cases h42 : l.length < 42
  · have PE : Hid (parseE l = 4) := pe_short h42
    go_enter Try.func44, Try.ntmps44
    go_wp2
    (try simp only [Exit.inBlock, Exit.then])
    refine bodyPost_ret (ret_cell rfl rfl rfl (load9 N1.out)) rfl ?_
    exact ret_rp PE.out (rp_no PE.out (by decide)) X1.out
  obtain ⟨pb, po, rfl⟩ : ∃ pb po, a0 = some ⟨pb, po, none⟩ := by
    rcases hcell with h0 | ⟨pb, po, e, -⟩
    · omega
    · exact ⟨pb, po, e⟩
  have HC2 : Hid (w.cell? ⟨pb, po + 2, none⟩ = some (.int .u8 (num l 2 1))) := by
    rcases hcell with h0 | ⟨pb', po', e, hc⟩
    · omega
    · injection e with e
      injection e with e1 e2 _
      subst e1; subst e2
      have h := hc 2 _ (map_bv_at l 2 (by omega))
      rw [← num_one l 2 (by omega)] at h
      exact h
  clear hcell
  have H42 : Hid (¬ l.length < 42) := h42
  have BW : Hid (Bs (w.alloc (.cells #[.int .u64 0, .int .i64 0, .int .i64 0, .int .i64 0, .int .i64 0, .int .i64 0, .int .i64 0, .int .u64 0, .slice none 0 0] 67)) (.slice (some ⟨pb, po, none⟩) l.length k0) l) := HB.out.below X1.out
  go_enter Try.func44, Try.ntmps44
  go_wp2_with fail
  obtain ⟨w1, hw1⟩ : ∃ w1, w.alloc (.cells #[.int .u64 0, .int .i64 0, .int .i64 0, .int .i64 0, .int .i64 0, .int .i64 0, .int .i64 0, .int .u64 0, .slice none 0 0] 67) = w1 := ⟨_, rfl⟩
  rw [hw1] at N1 X1 FZ1 BW SZ ⊢
  clear hw1
  refine (rnum_any _ l 0 2 _ BW.out (by omega) (by omega) (by omega)).mono ?_
  rintro e w2 ⟨rfl, hw2⟩
  obtain rfl := hw2.symm
  clear hw2
  have b0 := num_small l 0 2 (by omega)
  rw [asInt_small _ (by omega)]
  by_cases hm : num l 0 2 = 16716
  · have HM : Hid (num l 0 2 = 16716) := hm
    rw [hm]
    clear hm b0
    have d2 : w1.cell? ⟨pb, po + 2, none⟩ = some (.int .u8 (num l 2 1)) := (X1.out.cell (cell_block_lt HC2.out)).trans HC2.out
    by_cases hv : num l 2 1 = 1
    · have HV : Hid (num l 2 1 = 1) := hv
      rw [hv] at d2
      clear hv
      have s0 : ∀ W, (Instr.slice 28 (.slice (some ⟨pb, po, none⟩) l.length k0) (some (.int .i64 3)) (some (.int .i64 11)) none).run Try.prog W = .ok (.slice (some ⟨pb, po + 3, none⟩) 8 (k0 - 3)) W := by
        intro W
        have h := slice_mid W (some ⟨pb, po, none⟩) l.length k0 3 8 (by omega)
        rw [if_neg (by omega)] at h
        simpa [Addr.add] using h
      have B0 : Hid (Bs w1 (.slice (some ⟨pb, po + 3, none⟩) 8 (k0 - 3)) ((l.drop 3).take 8)) := by
        have h := BW.out.mid 3 8 (by omega)
        rw [if_neg (by omega)] at h
        have e : ((some (⟨pb, po, none⟩ : Addr)).map (·.add (3 * 1))) = some ⟨pb, po + 3, none⟩ := by simp [Addr.add]
        rw [e] at h
        exact h
      go_wp2_with fail
      refine (rget_any _ ((l.drop 3).take 8) _ B0.out (by simp; omega)).mono ?_
      rintro e w2 ⟨rfl, hw2⟩
      obtain rfl := hw2.symm
      clear hw2 d2 s0 B0
      obtain ⟨z0, hz0⟩ : ∃ z, num64 ((l.drop 3).take 8) = z := ⟨_, rfl⟩
      have HZ0 : Hid (num l 3 8 = z0) := hz0
      rw [hz0]
      clear hz0
      go_wp2_with fail
      refine (rnum_any _ l 11 4 _ BW.out (by omega) (by omega) (by omega)).mono ?_
      rintro e w2 ⟨rfl, hw2⟩
      obtain rfl := hw2.symm
      clear hw2
      have bz := num_small l 11 4 (by omega)
      rw [asInt_small _ (by omega)]
      obtain ⟨z1, hz⟩ : ∃ z, num l 11 4 = z := ⟨_, rfl⟩
      have HZ1 : Hid (num l 11 4 = z1) := hz
      have bz1 : z1 < 2 ^ (8 * 4) := by rw [← hz]; exact bz
      rw [hz]
      clear hz bz
      go_wp2_with fail
      refine (rnum_any _ l 15 2 _ BW.out (by omega) (by omega) (by omega)).mono ?_
      rintro e w2 ⟨rfl, hw2⟩
      obtain rfl := hw2.symm
      clear hw2
      have bz := num_small l 15 2 (by omega)
      rw [asInt_small _ (by omega)]
      obtain ⟨z2, hz⟩ : ∃ z, num l 15 2 = z := ⟨_, rfl⟩
      have HZ2 : Hid (num l 15 2 = z2) := hz
      have bz2 : z2 < 2 ^ (8 * 2) := by rw [← hz]; exact bz
      rw [hz]
      clear hz bz
      go_wp2_with fail
      refine (rnum_any _ l 17 1 _ BW.out (by omega) (by omega) (by omega)).mono ?_
      rintro e w2 ⟨rfl, hw2⟩
      obtain rfl := hw2.symm
      clear hw2
      have bz := num_small l 17 1 (by omega)
      rw [asInt_small _ (by omega)]
      obtain ⟨z3, hz⟩ : ∃ z, num l 17 1 = z := ⟨_, rfl⟩
      have HZ3 : Hid (num l 17 1 = z3) := hz
      have bz3 : z3 < 2 ^ (8 * 1) := by rw [← hz]; exact bz
      rw [hz]
      clear hz bz
      go_wp2_with fail
      refine (rnum_any _ l 18 2 _ BW.out (by omega) (by omega) (by omega)).mono ?_
      rintro e w2 ⟨rfl, hw2⟩
      obtain rfl := hw2.symm
      clear hw2
      have bz := num_small l 18 2 (by omega)
      rw [asInt_small _ (by omega)]
      obtain ⟨z4, hz⟩ : ∃ z, num l 18 2 = z := ⟨_, rfl⟩
      have HZ4 : Hid (num l 18 2 = z4) := hz
      have bz4 : z4 < 2 ^ (8 * 2) := by rw [← hz]; exact bz
      rw [hz]
      clear hz bz
      go_wp2_with fail
      refine (rnum_any _ l 20 2 _ BW.out (by omega) (by omega) (by omega)).mono ?_
      rintro e w2 ⟨rfl, hw2⟩
      obtain rfl := hw2.symm
      clear hw2
      have bz := num_small l 20 2 (by omega)
      rw [asInt_small _ (by omega)]
      obtain ⟨z5, hz⟩ : ∃ z, num l 20 2 = z := ⟨_, rfl⟩
      have HZ5 : Hid (num l 20 2 = z5) := hz
      have bz5 : z5 < 2 ^ (8 * 2) := by rw [← hz]; exact bz
      rw [hz]
      clear hz bz
      go_wp2_with fail
      refine (rnum_any _ l 22 8 _ (BW.out.below (below_alloc _ _)) (by omega) (by omega) (by omega)).mono ?_
      rintro e w2 ⟨rfl, hw2⟩
      obtain rfl := hw2.symm
      clear hw2
      obtain ⟨z6, hz⟩ : ∃ z, asInt (num l 22 8) = z := ⟨_, rfl⟩
      have HZ6 : Hid (asInt (num l 22 8) = z6) := hz
      rw [hz]
      clear hz
      have s0 : ∀ W, (Instr.slice 28 (.slice (some ⟨pb, po, none⟩) l.length k0) (some (.int .i64 30)) (some (.int .i64 38)) none).run Try.prog W = .ok (.slice (some ⟨pb, po + 30, none⟩) 8 (k0 - 30)) W := by
        intro W
        have h := slice_mid W (some ⟨pb, po, none⟩) l.length k0 30 8 (by omega)
        rw [if_neg (by omega)] at h
        simpa [Addr.add] using h
      have B0 : Hid (Bs w1 (.slice (some ⟨pb, po + 30, none⟩) 8 (k0 - 30)) ((l.drop 30).take 8)) := by
        have h := BW.out.mid 30 8 (by omega)
        rw [if_neg (by omega)] at h
        have e : ((some (⟨pb, po, none⟩ : Addr)).map (·.add (30 * 1))) = some ⟨pb, po + 30, none⟩ := by simp [Addr.add]
        rw [e] at h
        exact h
      go_wp2_with fail
      refine (rget_any _ ((l.drop 30).take 8) _ (B0.out.below (below_alloc _ _)) (by simp; omega)).mono ?_
      rintro e w2 ⟨rfl, hw2⟩
      obtain rfl := hw2.symm
      clear hw2 s0 B0
      obtain ⟨z7, hz⟩ : ∃ z, num64 ((l.drop 30).take 8) = z := ⟨_, rfl⟩
      have HZ7 : Hid (num l 30 8 = z7) := hz
      rw [hz]
      clear hz
      go_wp2_with fail
      refine (rmayh_any z0 z1 z2 z3 z4 z5 z6 z7 _).mono ?_
      rintro e w3 ⟨rfl, hb3⟩
      have E3 : Hid (Eight w3 w1.heap.size z0 z1 z2 z3 z4 z5 z6 z7) := (eight_new w1 65 z0 z1 z2 z3 z4 z5 z6 z7).below hb3
      have X3' := below_mid (below_alloc w1 _) hb3
      have X3 : Hid (Below w.heap.size w w3) := below_mid X1.out X3'
      have N3 : Hid (Nine w3 w.heap.size 0 0 0 0 0 0 0 0 (.slice none 0 0)) := N1.out.below X3'
      have FZ3 : Hid (∀ i, w3.frozen? ⟨w.heap.size, i, none⟩ = false) := fun i => (World.frozen?_of_block (a := ⟨w.heap.size, i, none⟩) (X3'.block w.heap.size N1.out.lt)).trans (FZ1.out i)
      have B3 : Hid (Bs w3 (.slice (some ⟨pb, po, none⟩) l.length k0) l) := BW.out.below X3'
      have HH : Hid (headE l = mayHE z1 z2 z3 z4 z5 z6) := by
        unfold Hid headE
        rw [if_neg (by rw [HM.out]; simp), if_neg (by rw [HV.out]; simp), HZ1.out, HZ2.out, HZ3.out, HZ4.out, HZ5.out, HZ6.out]
      have HNE : Hid (w1.heap.size ≠ w.heap.size) := by unfold Hid; rw [SZ.out]; omega
      clear hb3 X3' BW N1 FZ1 X1
      obtain ⟨hb, hhb⟩ : ∃ hb, w1.heap.size = hb := ⟨_, rfl⟩
      rw [hhb] at E3 HNE ⊢
      clear hhb SZ
      by_cases hmay : MayH z1 z2 z3 z4 z5 z6
      · have H0 : Hid (headE l = 0) := by unfold Hid; rw [HH.out, mayHE_yes hmay]
        rw [@decide_eq_true _ (decMayH _ _ _ _ _ _) hmay]
        clear hmay HH
        obtain ⟨e0, e1, e2, e3, e4, e5, e6, e7⟩ := E3.out
        by_cases hlen : l.length = 42 + z2
        · have HLEN : Hid (l.length = 42 + z2) := hlen
          have hne : ((l.length : Int) == 42 + (z2 : Int)) = true := by simp; omega
          clear hlen
          obtain ⟨M, hM⟩ : ∃ M : Nat, M + 4 = l.length := ⟨l.length - 4, by omega⟩
          have HMM : Hid (M + 4 = l.length) := hM
          have hMI : IntKind.i64.wrap ((l.length : Int) - 4) = (M : Int) := by rw [IntKind.wrap_i64]; omega
          have hMk : M ≤ k0 := by omega
          clear hM
          have S1 : Hid (∀ W, (Instr.slice 28 (.slice (some ⟨pb, po, none⟩) l.length k0) none (some (.int .i64 M)) none).run Try.prog W = .ok (.slice (some ⟨pb, po, none⟩) M k0) W) := fun W => slice_to W _ l.length k0 M hMk
          have HT : Hid (rightB l = (sealB (l.take M) == l)) := by
            have h := right_spec l (by have := HMM.out; omega)
            rw [show l.length - 4 = M by have := HMM.out; omega] at h
            exact h
          have BT : Hid (Bs w3 (.slice (some ⟨pb, po, none⟩) M k0) (l.take M)) := B3.out.take (by have := HMM.out; omega)
          have CS : Hid (∀ W, Below w3.heap.size w3 W → Calls Try.prog 50 #[.slice (some ⟨pb, po, none⟩) M k0] W fun e w' => ∃ v, e = .returned v ∧ IsBs (sealB (l.take M)) v w' ∧ Below W.heap.size W w') := by
            intro W hW
            have hlt : (l.take M).length ≤ 1000000 := by simp; omega
            refine (rseal_any _ (l.take M) W (BT.out.below hW) hlt).mono ?_
            rintro e w' ⟨a, c, rfl, h1, h2⟩
            exact ⟨_, rfl, h1, h2⟩
          have KB : Hid (∀ W, Below w3.heap.size w3 W → (convert 28 9 (.slice (some ⟨pb, po, none⟩) l.length k0)).run Try.prog W = .ok (.string (str l)) W) := fun W hW => conv_bytes (B3.out.below hW)
          generalize sealB (l.take M) = T at *
          by_cases hT : T = l
          · subst hT
            have HRT : Hid (rightB T = true) := by unfold Hid; rw [HT.out]; simp
            clear HT
            go_wp2
            rename_i hzz K1 a1 K2 a2
            clear hzz hne
            refine wp_region_any (by kernel_rfl) ?_
            obtain ⟨gs, hgs⟩ : ∃ gs : List (Value → World → Prop), gs = [IsV (Value.slice (some { block := pb, off := po }) T.length k0), IsV (Value.slice (some { block := pb, off := po }) T.length k0), IsV (.int .i64 (T.length : Int)), IsV (.int .i64 (M : Int)), IsV (.slice (some ⟨pb, po, none⟩) M k0), IsBs T, IsV (.string (str T)), IsV (Value.slice (some { block := pb, off := po }) T.length k0), IsV (.string (str T)), IsV (.bool false)] := ⟨_, rfl⟩
            have g0 : Hid (gs[0]? = some (IsV (Value.slice (some { block := pb, off := po }) T.length k0))) := by unfold Hid; rw [hgs]; rfl
            have g1 : Hid (gs[1]? = some (IsV (Value.slice (some { block := pb, off := po }) T.length k0))) := by unfold Hid; rw [hgs]; rfl
            have g2 : Hid (gs[2]? = some (IsV (.int .i64 (T.length : Int)))) := by unfold Hid; rw [hgs]; rfl
            have g3 : Hid (gs[3]? = some (IsV (.int .i64 (M : Int)))) := by unfold Hid; rw [hgs]; rfl
            have g4 : Hid (gs[4]? = some (IsV (.slice (some ⟨pb, po, none⟩) M k0))) := by unfold Hid; rw [hgs]; rfl
            have g5 : Hid (gs[5]? = some (IsBs T)) := by unfold Hid; rw [hgs]; rfl
            have g6 : Hid (gs[6]? = some (IsV (.string (str T)))) := by unfold Hid; rw [hgs]; rfl
            have g7 : Hid (gs[7]? = some (IsV (Value.slice (some { block := pb, off := po }) T.length k0))) := by unfold Hid; rw [hgs]; rfl
            have g8 : Hid (gs[8]? = some (IsV (.string (str T)))) := by unfold Hid; rw [hgs]; rfl
            have g9 : Hid (gs[9]? = some (IsV (.bool false))) := by unfold Hid; rw [hgs]; rfl
            have gk : Hid (∀ p ∈ gs, Stays p) := by
              unfold Hid
              rw [hgs]
              simp only [List.forall_mem_cons]
              exact ⟨stays_v _, stays_v _, stays_v _, stays_v _, stays_v _, stays_bs _, stays_v _, stays_v _, stays_v _, stays_v _, by simp⟩
            clear hgs
            refine wpAny_inv (fun listed ac W => ∃ xv : Nat → Value, ac = ⟨#[Value.slice (some { block := pb, off := po }) T.length k0, undef, Value.pointer (some { block := w.heap.size, off := 0 }), Value.int IntKind.i64 (0 : Int), Value.pointer (some { block := hb, off := 0 }), Value.slice (some { block := pb, off := po }) T.length k0, Value.int IntKind.i64 ↑T.length, Value.bool (decide (↑T.length < (42 : Int))), undef, Value.slice (some { block := pb, off := po }) T.length k0, Value.int IntKind.i64 (16716 : Int), Value.bool false, undef, Value.slice (some { block := pb, off := po }) T.length k0, Value.pointer (some { block := pb, off := po + 2 }), Value.int IntKind.u8 (1 : Int), Value.bool false, undef, Value.slice (some { block := pb, off := po }) T.length k0, Value.slice (some { block := pb, off := po + 3 }) 8 (k0 - 3), Value.int IntKind.u64 ↑z0, Value.slice (some { block := pb, off := po }) T.length k0, Value.int IntKind.i64 ↑z1, Value.slice (some { block := pb, off := po }) T.length k0, Value.int IntKind.i64 ↑z2, Value.slice (some { block := pb, off := po }) T.length k0, Value.int IntKind.i64 ↑z3, Value.slice (some { block := pb, off := po }) T.length k0, Value.int IntKind.i64 ↑z4, Value.slice (some { block := pb, off := po }) T.length k0, Value.int IntKind.i64 ↑z5, Value.agg #[Value.int IntKind.i64 ↑z1, Value.int IntKind.i64 ↑z2, Value.int IntKind.i64 ↑z3, Value.int IntKind.i64 ↑z4, Value.int IntKind.i64 ↑z5], Value.agg #[Value.int IntKind.u64 ↑z0, Value.int IntKind.i64 ↑z1, Value.int IntKind.i64 ↑z2, Value.int IntKind.i64 ↑z3, Value.int IntKind.i64 ↑z4, Value.int IntKind.i64 ↑z5, Value.int IntKind.i64 (0 : Int), Value.int IntKind.u64 (0 : Int)], Value.slice (some { block := pb, off := po }) T.length k0, Value.int IntKind.i64 z6, Value.pointer (some { block := hb, off := 6 }), Value.slice (some { block := pb, off := po }) T.length k0, Value.slice (some { block := pb, off := po + 30 }) 8 (k0 - 30), Value.int IntKind.u64 ↑z7, Value.pointer (some { block := hb, off := 7 }), Value.agg #[Value.int IntKind.u64 ↑z0, Value.int IntKind.i64 ↑z1, Value.int IntKind.i64 ↑z2, Value.int IntKind.i64 ↑z3, Value.int IntKind.i64 ↑z4, Value.int IntKind.i64 ↑z5, Value.int IntKind.i64 z6, Value.int IntKind.u64 ↑z7], Value.bool true, Value.bool false, undef, Value.slice (some { block := pb, off := po }) T.length k0, Value.int IntKind.i64 ↑T.length, Value.pointer (some { block := hb, off := 1 }), Value.pointer (some { block := hb, off := 2 }), Value.int IntKind.i64 ↑z2, Value.int IntKind.i64 ((42 : Int) + ↑z2), Value.bool (↑T.length != (42 : Int) + ↑z2), undef, xv 0, xv 1, xv 2, xv 3, xv 4, xv 5, xv 6, xv 7, xv 8, xv 9, undef, undef, undef, undef, undef, undef, undef, undef, undef, undef, undef], []⟩ ∧ Below w3.heap.size w3 W ∧ Lst gs listed xv W) (by kernel_rfl) ?_ ?_ _ _ _ _ (by kernel_rfl) (of_decide_eq_true (by kernel_rfl)) ⟨fun j => undef, rfl, below0 _, Lst.start _ _ _ _⟩
            · rintro listed ac W ⟨xv, rfl, hb, hG⟩ i hi hd
              have hin : i < 10 := hi
              clear hi
              have hcase : i = 0 ∨ i = 1 ∨ i = 2 ∨ i = 3 ∨ i = 4 ∨ i = 5 ∨ i = 6 ∨ i = 7 ∨ i = 8 ∨ i = 9 := by omega
              rcases hcase with rfl | rfl | rfl | rfl | rfl | rfl | rfl | rfl | rfl | rfl
              · refine wpOp_step rfl (fun K' hK => ?_)
                clear hd hin
                go_simp
                exact hK _ _ ⟨updV xv 0 (Value.slice (some { block := pb, off := po }) T.length k0), by simp [updV], hb, hG.same gk.out g0.out _ rfl⟩
              · refine wpOp_step rfl (fun K' hK => ?_)
                clear hd hin
                go_simp
                exact hK _ _ ⟨updV xv 1 (Value.slice (some { block := pb, off := po }) T.length k0), by simp [updV], hb, hG.same gk.out g1.out _ rfl⟩
              · refine wpOp_step rfl (fun K' hK => ?_)
                simp [Region.binds] at hd
                have e1 : xv 1 = Value.slice (some { block := pb, off := po }) T.length k0 := hG.get g1.out (by simp [hd])
                clear hd hin
                go_simp
                exact hK _ _ ⟨updV xv 2 (.int .i64 (T.length : Int)), by simp [updV, e1], hb, hG.same gk.out g2.out _ rfl⟩
              · refine wpOp_step rfl (fun K' hK => ?_)
                simp [Region.binds] at hd
                have e2 : xv 2 = .int .i64 (T.length : Int) := hG.get g2.out (by simp [hd])
                clear hd hin
                go_simp
                exact hK _ _ ⟨updV xv 3 (.int .i64 (M : Int)), by simp [updV, e2], hb, hG.same gk.out g3.out _ rfl⟩
              · refine wpOp_step rfl (fun K' hK => ?_)
                simp [Region.binds] at hd
                have e0 : xv 0 = Value.slice (some { block := pb, off := po }) T.length k0 := hG.get g0.out (by simp [hd])
                have e3 : xv 3 = .int .i64 (M : Int) := hG.get g3.out (by simp [hd])
                have kr := S1.out W
                clear hd hin
                go_simp
                exact hK _ _ ⟨updV xv 4 (.slice (some ⟨pb, po, none⟩) M k0), by simp [updV, e0, e3], hb, hG.same gk.out g4.out _ rfl⟩
              · refine wpOp_step rfl (fun K' hK => ?_)
                simp [Region.binds] at hd
                have e4 : xv 4 = .slice (some ⟨pb, po, none⟩) M k0 := hG.get g4.out (by simp [hd])
                clear hd hin
                go_simp
                refine (CS.out W hb).mono ?_
                rintro e w' ⟨v, rfl, hv, hb'⟩
                go_wp2_with fail
                exact ⟨updV xv 5 v, by simp [updV, e4], hb.trans (hb'.mono hb.size), hG.step gk.out hb' g5.out v hv⟩
              · refine wpOp_step rfl (fun K' hK => ?_)
                simp [Region.binds] at hd
                have m5 : IsBs T (xv 5) W := hG.get g5.out (by simp [hd])
                have kr := conv_bytes m5
                clear hd hin
                go_simp
                exact hK _ _ ⟨updV xv 6 (.string (str T)), by simp [updV], hb, hG.same gk.out g6.out _ rfl⟩
              · refine wpOp_step rfl (fun K' hK => ?_)
                clear hd hin
                go_simp
                exact hK _ _ ⟨updV xv 7 (Value.slice (some { block := pb, off := po }) T.length k0), by simp [updV], hb, hG.same gk.out g7.out _ rfl⟩
              · refine wpOp_step rfl (fun K' hK => ?_)
                simp [Region.binds] at hd
                have e7 : xv 7 = Value.slice (some { block := pb, off := po }) T.length k0 := hG.get g7.out (by simp [hd])
                have kr := KB.out W hb
                clear hd hin
                go_simp
                exact hK _ _ ⟨updV xv 8 (.string (str T)), by simp [updV, e7], hb, hG.same gk.out g8.out _ rfl⟩
              · refine wpOp_step rfl (fun K' hK => ?_)
                simp [Region.binds] at hd
                have e6 : xv 6 = .string (str T) := hG.get g6.out (by simp [hd])
                have e8 : xv 8 = .string (str T) := hG.get g8.out (by simp [hd])
                clear hd hin
                go_simp
                exact hK _ _ ⟨updV xv 9 (.bool false), by simp [updV, e6, e8], hb, hG.same gk.out g9.out _ rfl⟩
            · rintro listed ac W ⟨xv, rfl, hb, hG⟩ hall
              have e9 : xv 9 = .bool false := hG.get g9.out (hall 9 (by decide))
              have XW : Hid (Below w3.heap.size w3 W) := hb
              clear hall hG hb gk g0 g1 g2 g3 g4 g5 g6 g7 g8 g9
              rw [e9]
              clear e9
              have NW : Hid (Nine W w.heap.size 0 0 0 0 0 0 0 0 (.slice none 0 0)) := N3.out.below XW.out
              have FW : Hid (∀ i, W.frozen? ⟨w.heap.size, i, none⟩ = false) := fun i => (World.frozen?_of_block (a := ⟨w.heap.size, i, none⟩) (XW.out.block w.heap.size N3.out.lt)).trans (FZ3.out i)
              have XX : Hid (Below w.heap.size w W) := below_mid X3.out XW.out
              have EW : Hid (Eight W hb z0 z1 z2 z3 z4 z5 z6 z7) := E3.out.below XW.out
              have PE : Hid (parseE T = 0) := pe_ok H42.out H0.out (by rw [HLEN.out, HZ2.out]) HRT.out
              have PW : Hid (packW T = fun q k => #[.int .u64 z0, .int .i64 z1, .int .i64 z2, .int .i64 z3, .int .i64 z4, .int .i64 z5, .int .i64 z6, .int .u64 z7, .slice (some ⟨q, 0, none⟩) z2 k]) := by unfold Hid packW; rw [HZ0.out, HZ1.out, HZ2.out, HZ3.out, HZ4.out, HZ5.out, HZ6.out, HZ7.out]
              have PY : Hid (Bs W (.slice (some ⟨pb, po + 38, none⟩) z2 (k0 - 38)) (payB T)) := by
                have h := (B3.out.below XW.out).mid 38 z2 (by have := HLEN.out; omega)
                rw [if_neg (by have := HLEN.out; omega)] at h
                have e : ((some (⟨pb, po, none⟩ : Addr)).map (·.add (38 * 1))) = some ⟨pb, po + 38, none⟩ := by simp [Addr.add]
                rw [e] at h
                unfold Hid payB
                rw [HZ2.out]
                exact h
              have PL : Hid ((payB T).length = z2) := by unfold Hid payB; rw [HZ2.out]; have := HLEN.out; simp; omega
              have s3 : ∀ W', (Instr.slice 28 (.slice (some ⟨pb, po, none⟩) T.length k0) (some (.int .i64 38)) (some (.int .i64 (38 + (z2 : Int)))) none).run Try.prog W' = .ok (.slice (some ⟨pb, po + 38, none⟩) z2 (k0 - 38)) W' := by
                intro W'
                have h := slice_mid W' (some ⟨pb, po, none⟩) T.length k0 38 z2 (by have := HLEN.out; omega)
                rw [if_neg (by have := HLEN.out; omega)] at h
                simpa [Addr.add] using h
              have hwz : IntKind.i64.wrap (38 + (z2 : Int)) = 38 + (z2 : Int) := by rw [IntKind.wrap_i64]; omega
              clear XW N3 FZ3 X3 E3 CS KB S1 BT B3 e0 e1 e2 e3 e4 e5 e6 e7 hMI hMk
              have hlt1 := NW.out.lt
              have hlt2 := cell_block_lt EW.out.1
              obtain ⟨⟨c0, c1, c2, c3, c4, c5, c6, c7⟩, c8⟩ := NW.out
              obtain ⟨e0, e1, e2, e3, e4, e5, e6, e7⟩ := EW.out
              have f := FW.out
              have f0 := f 0
              have f1 := f 1
              have f2 := f 2
              have f3 := f 3
              have f4 := f 4
              have f5 := f 5
              have f6 := f 6
              have f7 := f 7
              have f8 := f 8
              clear f
              go_wp2
              go_region_law ((refine step_copy _ (by rfl) _ _ (by rfl) W.heap.size W.heap.size (payB T) (.slice (some ⟨pb, po + 38, none⟩) z2 (k0 - 38)) (by rfl) (by rfl) (by first | exact Blk.lit W _ [] _ rfl rfl | exact (Blk.lit W _ [] _ rfl rfl).below (below0 _)) (by first | exact PY.out.below (below_alloc _ _) | exact (PY.out.below (below_alloc _ _)).below (below0 _)) (by rw [PL.out]; omega) (Nat.le_refl _) (by simp) ?_; intro qq kk W' hown hqq hbb; have XA : Hid (Below W.heap.size W W') := (by first | exact (below_alloc W _).trans (hbb.mono (by simp)) | exact ((below_alloc W _).trans ((below0 _).mono (by simp))).trans (hbb.mono (by simp))); have OA : Hid (IsOwn W.heap.size (payB T) (.slice (some ⟨qq, 0, none⟩) (payB T).length kk) W') := hown; obtain ⟨⟨k0', k1', k2', k3', k4', k5', k6', k7'⟩, k8'⟩ := NW.out.below XA.out; obtain ⟨m0', m1', m2', m3', m4', m5', m6', m7'⟩ := EW.out.below XA.out; have hfz : ∀ i, W'.frozen? ⟨w.heap.size, i, none⟩ = false := (fun i => (World.frozen?_of_block (a := ⟨w.heap.size, i, none⟩) (XA.out.block w.heap.size hlt1)).trans (FW.out i)); have g0 := hfz 0; have g1 := hfz 1; have g2 := hfz 2; have g3 := hfz 3; have g4 := hfz 4; have g5 := hfz 5; have g6 := hfz 6; have g7 := hfz 7; have g8 := hfz 8; clear hown hbb hqq hfz))
              all_goals
                go_wp2
                (try simp only [Exit.inBlock, Exit.then])
                refine bodyPost_ret (ret_cell rfl rfl rfl (load9 (nine_store (NW.out.below XA.out) z0 z1 z2 z3 z4 z5 z6 z7 (.slice (some ⟨qq, 0, none⟩) (payB T).length kk)))) rfl ?_
                exact rp_end (NW.out.below XA.out) (below_mid XX.out XA.out) hlt1 OA.out PE.out PW.out PL.out HZ2.out
          · have HRT : Hid (rightB l = false) := by unfold Hid; rw [HT.out]; simpa using hT
            have PE : Hid (parseE l = 8) := pe_sum H42.out H0.out (by rw [HLEN.out, HZ2.out]) HRT.out
            have hTl : (T == l) = false := by simpa using hT
            clear HT hT
            go_wp2
            rename_i hzz K1 a1 K2 a2
            clear hzz hne
            refine wp_region_any (by kernel_rfl) ?_
            obtain ⟨gs, hgs⟩ : ∃ gs : List (Value → World → Prop), gs = [IsV (Value.slice (some { block := pb, off := po }) l.length k0), IsV (Value.slice (some { block := pb, off := po }) l.length k0), IsV (.int .i64 (l.length : Int)), IsV (.int .i64 (M : Int)), IsV (.slice (some ⟨pb, po, none⟩) M k0), IsBs T, IsV (.string (str T)), IsV (Value.slice (some { block := pb, off := po }) l.length k0), IsV (.string (str l)), IsV (.bool true)] := ⟨_, rfl⟩
            have g0 : Hid (gs[0]? = some (IsV (Value.slice (some { block := pb, off := po }) l.length k0))) := by unfold Hid; rw [hgs]; rfl
            have g1 : Hid (gs[1]? = some (IsV (Value.slice (some { block := pb, off := po }) l.length k0))) := by unfold Hid; rw [hgs]; rfl
            have g2 : Hid (gs[2]? = some (IsV (.int .i64 (l.length : Int)))) := by unfold Hid; rw [hgs]; rfl
            have g3 : Hid (gs[3]? = some (IsV (.int .i64 (M : Int)))) := by unfold Hid; rw [hgs]; rfl
            have g4 : Hid (gs[4]? = some (IsV (.slice (some ⟨pb, po, none⟩) M k0))) := by unfold Hid; rw [hgs]; rfl
            have g5 : Hid (gs[5]? = some (IsBs T)) := by unfold Hid; rw [hgs]; rfl
            have g6 : Hid (gs[6]? = some (IsV (.string (str T)))) := by unfold Hid; rw [hgs]; rfl
            have g7 : Hid (gs[7]? = some (IsV (Value.slice (some { block := pb, off := po }) l.length k0))) := by unfold Hid; rw [hgs]; rfl
            have g8 : Hid (gs[8]? = some (IsV (.string (str l)))) := by unfold Hid; rw [hgs]; rfl
            have g9 : Hid (gs[9]? = some (IsV (.bool true))) := by unfold Hid; rw [hgs]; rfl
            have gk : Hid (∀ p ∈ gs, Stays p) := by
              unfold Hid
              rw [hgs]
              simp only [List.forall_mem_cons]
              exact ⟨stays_v _, stays_v _, stays_v _, stays_v _, stays_v _, stays_bs _, stays_v _, stays_v _, stays_v _, stays_v _, by simp⟩
            clear hgs
            refine wpAny_inv (fun listed ac W => ∃ xv : Nat → Value, ac = ⟨#[Value.slice (some { block := pb, off := po }) l.length k0, undef, Value.pointer (some { block := w.heap.size, off := 0 }), Value.int IntKind.i64 (0 : Int), Value.pointer (some { block := hb, off := 0 }), Value.slice (some { block := pb, off := po }) l.length k0, Value.int IntKind.i64 ↑l.length, Value.bool (decide (↑l.length < (42 : Int))), undef, Value.slice (some { block := pb, off := po }) l.length k0, Value.int IntKind.i64 (16716 : Int), Value.bool false, undef, Value.slice (some { block := pb, off := po }) l.length k0, Value.pointer (some { block := pb, off := po + 2 }), Value.int IntKind.u8 (1 : Int), Value.bool false, undef, Value.slice (some { block := pb, off := po }) l.length k0, Value.slice (some { block := pb, off := po + 3 }) 8 (k0 - 3), Value.int IntKind.u64 ↑z0, Value.slice (some { block := pb, off := po }) l.length k0, Value.int IntKind.i64 ↑z1, Value.slice (some { block := pb, off := po }) l.length k0, Value.int IntKind.i64 ↑z2, Value.slice (some { block := pb, off := po }) l.length k0, Value.int IntKind.i64 ↑z3, Value.slice (some { block := pb, off := po }) l.length k0, Value.int IntKind.i64 ↑z4, Value.slice (some { block := pb, off := po }) l.length k0, Value.int IntKind.i64 ↑z5, Value.agg #[Value.int IntKind.i64 ↑z1, Value.int IntKind.i64 ↑z2, Value.int IntKind.i64 ↑z3, Value.int IntKind.i64 ↑z4, Value.int IntKind.i64 ↑z5], Value.agg #[Value.int IntKind.u64 ↑z0, Value.int IntKind.i64 ↑z1, Value.int IntKind.i64 ↑z2, Value.int IntKind.i64 ↑z3, Value.int IntKind.i64 ↑z4, Value.int IntKind.i64 ↑z5, Value.int IntKind.i64 (0 : Int), Value.int IntKind.u64 (0 : Int)], Value.slice (some { block := pb, off := po }) l.length k0, Value.int IntKind.i64 z6, Value.pointer (some { block := hb, off := 6 }), Value.slice (some { block := pb, off := po }) l.length k0, Value.slice (some { block := pb, off := po + 30 }) 8 (k0 - 30), Value.int IntKind.u64 ↑z7, Value.pointer (some { block := hb, off := 7 }), Value.agg #[Value.int IntKind.u64 ↑z0, Value.int IntKind.i64 ↑z1, Value.int IntKind.i64 ↑z2, Value.int IntKind.i64 ↑z3, Value.int IntKind.i64 ↑z4, Value.int IntKind.i64 ↑z5, Value.int IntKind.i64 z6, Value.int IntKind.u64 ↑z7], Value.bool true, Value.bool false, undef, Value.slice (some { block := pb, off := po }) l.length k0, Value.int IntKind.i64 ↑l.length, Value.pointer (some { block := hb, off := 1 }), Value.pointer (some { block := hb, off := 2 }), Value.int IntKind.i64 ↑z2, Value.int IntKind.i64 ((42 : Int) + ↑z2), Value.bool (↑l.length != (42 : Int) + ↑z2), undef, xv 0, xv 1, xv 2, xv 3, xv 4, xv 5, xv 6, xv 7, xv 8, xv 9, undef, undef, undef, undef, undef, undef, undef, undef, undef, undef, undef], []⟩ ∧ Below w3.heap.size w3 W ∧ Lst gs listed xv W) (by kernel_rfl) ?_ ?_ _ _ _ _ (by kernel_rfl) (of_decide_eq_true (by kernel_rfl)) ⟨fun j => undef, rfl, below0 _, Lst.start _ _ _ _⟩
            · rintro listed ac W ⟨xv, rfl, hb, hG⟩ i hi hd
              have hin : i < 10 := hi
              clear hi
              have hcase : i = 0 ∨ i = 1 ∨ i = 2 ∨ i = 3 ∨ i = 4 ∨ i = 5 ∨ i = 6 ∨ i = 7 ∨ i = 8 ∨ i = 9 := by omega
              rcases hcase with rfl | rfl | rfl | rfl | rfl | rfl | rfl | rfl | rfl | rfl
              · refine wpOp_step rfl (fun K' hK => ?_)
                clear hd hin
                go_simp
                exact hK _ _ ⟨updV xv 0 (Value.slice (some { block := pb, off := po }) l.length k0), by simp [updV], hb, hG.same gk.out g0.out _ rfl⟩
              · refine wpOp_step rfl (fun K' hK => ?_)
                clear hd hin
                go_simp
                exact hK _ _ ⟨updV xv 1 (Value.slice (some { block := pb, off := po }) l.length k0), by simp [updV], hb, hG.same gk.out g1.out _ rfl⟩
              · refine wpOp_step rfl (fun K' hK => ?_)
                simp [Region.binds] at hd
                have e1 : xv 1 = Value.slice (some { block := pb, off := po }) l.length k0 := hG.get g1.out (by simp [hd])
                clear hd hin
                go_simp
                exact hK _ _ ⟨updV xv 2 (.int .i64 (l.length : Int)), by simp [updV, e1], hb, hG.same gk.out g2.out _ rfl⟩
              · refine wpOp_step rfl (fun K' hK => ?_)
                simp [Region.binds] at hd
                have e2 : xv 2 = .int .i64 (l.length : Int) := hG.get g2.out (by simp [hd])
                clear hd hin
                go_simp
                exact hK _ _ ⟨updV xv 3 (.int .i64 (M : Int)), by simp [updV, e2], hb, hG.same gk.out g3.out _ rfl⟩
              · refine wpOp_step rfl (fun K' hK => ?_)
                simp [Region.binds] at hd
                have e0 : xv 0 = Value.slice (some { block := pb, off := po }) l.length k0 := hG.get g0.out (by simp [hd])
                have e3 : xv 3 = .int .i64 (M : Int) := hG.get g3.out (by simp [hd])
                have kr := S1.out W
                clear hd hin
                go_simp
                exact hK _ _ ⟨updV xv 4 (.slice (some ⟨pb, po, none⟩) M k0), by simp [updV, e0, e3], hb, hG.same gk.out g4.out _ rfl⟩
              · refine wpOp_step rfl (fun K' hK => ?_)
                simp [Region.binds] at hd
                have e4 : xv 4 = .slice (some ⟨pb, po, none⟩) M k0 := hG.get g4.out (by simp [hd])
                clear hd hin
                go_simp
                refine (CS.out W hb).mono ?_
                rintro e w' ⟨v, rfl, hv, hb'⟩
                go_wp2_with fail
                exact ⟨updV xv 5 v, by simp [updV, e4], hb.trans (hb'.mono hb.size), hG.step gk.out hb' g5.out v hv⟩
              · refine wpOp_step rfl (fun K' hK => ?_)
                simp [Region.binds] at hd
                have m5 : IsBs T (xv 5) W := hG.get g5.out (by simp [hd])
                have kr := conv_bytes m5
                clear hd hin
                go_simp
                exact hK _ _ ⟨updV xv 6 (.string (str T)), by simp [updV], hb, hG.same gk.out g6.out _ rfl⟩
              · refine wpOp_step rfl (fun K' hK => ?_)
                clear hd hin
                go_simp
                exact hK _ _ ⟨updV xv 7 (Value.slice (some { block := pb, off := po }) l.length k0), by simp [updV], hb, hG.same gk.out g7.out _ rfl⟩
              · refine wpOp_step rfl (fun K' hK => ?_)
                simp [Region.binds] at hd
                have e7 : xv 7 = Value.slice (some { block := pb, off := po }) l.length k0 := hG.get g7.out (by simp [hd])
                have kr := KB.out W hb
                clear hd hin
                go_simp
                exact hK _ _ ⟨updV xv 8 (.string (str l)), by simp [updV, e7], hb, hG.same gk.out g8.out _ rfl⟩
              · refine wpOp_step rfl (fun K' hK => ?_)
                simp [Region.binds] at hd
                have e6 : xv 6 = .string (str T) := hG.get g6.out (by simp [hd])
                have e8 : xv 8 = .string (str l) := hG.get g8.out (by simp [hd])
                have hst := str_toList
                clear hd hin
                go_simp
                exact hK _ _ ⟨updV xv 9 (.bool true), by simp [updV, e6, e8], hb, hG.same gk.out g9.out _ rfl⟩
            · rintro listed ac W ⟨xv, rfl, hb, hG⟩ hall
              have e9 : xv 9 = .bool true := hG.get g9.out (hall 9 (by decide))
              have XW : Hid (Below w3.heap.size w3 W) := hb
              clear hall hG hb gk g0 g1 g2 g3 g4 g5 g6 g7 g8 g9
              rw [e9]
              clear e9
              have NW : Hid (Nine W w.heap.size 0 0 0 0 0 0 0 0 (.slice none 0 0)) := N3.out.below XW.out
              have FW : Hid (∀ i, W.frozen? ⟨w.heap.size, i, none⟩ = false) := fun i => (World.frozen?_of_block (a := ⟨w.heap.size, i, none⟩) (XW.out.block w.heap.size N3.out.lt)).trans (FZ3.out i)
              have XX : Hid (Below w.heap.size w W) := below_mid X3.out XW.out
              obtain ⟨⟨c0, c1, c2, c3, c4, c5, c6, c7⟩, c8⟩ := NW.out
              have f := FW.out
              have f0 := f 0
              have f1 := f 1
              have f2 := f 2
              have f3 := f 3
              have f4 := f 4
              have f5 := f 5
              have f6 := f 6
              have f7 := f 7
              have f8 := f 8
              clear f
              go_wp2
              (try simp only [Exit.inBlock, Exit.then])
              refine bodyPost_ret (ret_cell rfl rfl rfl (load9 (nine_store NW.out 0 0 0 0 0 0 0 0 (.slice none 0 0)))) rfl ?_
              exact ret_rp PE.out (rp_no PE.out (by decide)) (below9 XX.out (Nat.le_refl _) _ _ _ _ _ _ _ _ _)
        · have PE : Hid (parseE l = 7) := pe_len H42.out H0.out (by rw [HZ2.out]; exact hlen)
          have hne : ((l.length : Int) == 42 + (z2 : Int)) = false := by simp; omega
          clear hlen
          obtain ⟨⟨c0, c1, c2, c3, c4, c5, c6, c7⟩, c8⟩ := N3.out
          have f := FZ3.out
          have f0 := f 0
          have f1 := f 1
          have f2 := f 2
          have f3 := f 3
          have f4 := f 4
          have f5 := f 5
          have f6 := f 6
          have f7 := f 7
          have f8 := f 8
          clear f
          go_wp2
          (try simp only [Exit.inBlock, Exit.then])
          refine bodyPost_ret (ret_cell rfl rfl rfl (load9 (nine_store N3.out 0 0 0 0 0 0 0 0 (.slice none 0 0)))) rfl ?_
          exact ret_rp PE.out (rp_no PE.out (by decide)) (below9 X3.out (Nat.le_refl _) _ _ _ _ _ _ _ _ _)
      · have H1 : Hid (headE l = 1) := by unfold Hid; rw [HH.out, mayHE_no hmay]
        have PE : Hid (parseE l = 1) := by unfold Hid; rw [pe_head H42.out (by rw [H1.out]; simp), H1.out]
        rw [@decide_eq_false _ (decMayH _ _ _ _ _ _) hmay]
        clear hmay HH
        obtain ⟨⟨c0, c1, c2, c3, c4, c5, c6, c7⟩, c8⟩ := N3.out
        have f := FZ3.out
        have f0 := f 0
        have f1 := f 1
        have f2 := f 2
        have f3 := f 3
        have f4 := f 4
        have f5 := f 5
        have f6 := f 6
        have f7 := f 7
        have f8 := f 8
        clear f
        go_wp2
        (try simp only [Exit.inBlock, Exit.then])
        refine bodyPost_ret (ret_cell rfl rfl rfl (load9 (nine_store N3.out 0 0 0 0 0 0 0 0 (.slice none 0 0)))) rfl ?_
        exact ret_rp PE.out (rp_no PE.out (by decide)) (below9 X3.out (Nat.le_refl _) _ _ _ _ _ _ _ _ _)
    · have H1 : Hid (headE l = 6) := by unfold Hid headE; rw [if_neg (by rw [HM.out]; simp), if_pos hv]
      have PE : Hid (parseE l = 6) := by unfold Hid; rw [pe_head H42.out (by rw [H1.out]; simp), H1.out]
      have hne := u64_ne hv
      have bz := num_small l 2 1 (by omega)
      clear hv
      generalize num l 2 1 = m at *
      obtain ⟨⟨c0, c1, c2, c3, c4, c5, c6, c7⟩, c8⟩ := N1.out
      have f := FZ1.out
      have f0 := f 0
      have f1 := f 1
      have f2 := f 2
      have f3 := f 3
      have f4 := f 4
      have f5 := f 5
      have f6 := f 6
      have f7 := f 7
      have f8 := f 8
      clear f
      go_wp2
      (try simp only [Exit.inBlock, Exit.then])
      refine bodyPost_ret (ret_cell rfl rfl rfl (load9 (nine_store N1.out 0 0 0 0 0 0 0 0 (.slice none 0 0)))) rfl ?_
      exact ret_rp PE.out (rp_no PE.out (by decide)) (below9 X1.out (Nat.le_refl _) _ _ _ _ _ _ _ _ _)
  · have H1 : Hid (headE l = 5) := by unfold Hid headE; rw [if_pos hm]
    have PE : Hid (parseE l = 5) := by unfold Hid; rw [pe_head H42.out (by rw [H1.out]; simp), H1.out]
    have hne := u64_ne hm
    clear hm
    generalize num l 0 2 = m at *
    obtain ⟨⟨c0, c1, c2, c3, c4, c5, c6, c7⟩, c8⟩ := N1.out
    have f := FZ1.out
    have f0 := f 0
    have f1 := f 1
    have f2 := f 2
    have f3 := f 3
    have f4 := f 4
    have f5 := f 5
    have f6 := f 6
    have f7 := f 7
    have f8 := f 8
    clear f
    go_wp2
    (try simp only [Exit.inBlock, Exit.then])
    refine bodyPost_ret (ret_cell rfl rfl rfl (load9 (nine_store N1.out 0 0 0 0 0 0 0 0 (.slice none 0 0)))) rfl ?_
    exact ret_rp PE.out (rp_no PE.out (by decide)) (below9 X1.out (Nat.le_refl _) _ _ _ _ _ _ _ _ _)

end Go.Proofs.Ytijonjiioeahhaa
