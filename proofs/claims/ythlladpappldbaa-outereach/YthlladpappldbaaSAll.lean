/-
  SampleAll.
-/
import Derived.Test.YthlladpappldbaaSmpS
import Derived.Test.YthlladpappldbaaSAllM
namespace Go.Proofs.Ythlladpappldbaa
open Go.RowKit
set_option linter.unusedVariables false

theorem us_lit2 (w : World) (t : TypeId) (x y : Nat) (hx : x < 18446744073709551616) (hy : y < 18446744073709551616) (b : Nat) (hb : b = w.heap.size) : Us (w.alloc (.cells #[.int .u64 (x : Int), .int .u64 (y : Int)] t)) (.slice (some ⟨b, 0, none⟩) 2 2) [x, y] :=
  ⟨Sl.lit w [uv x, uv y] t b 2 hb rfl (by simp), by intro z hz; simp at hz; rcases hz with rfl | rfl <;> assumption⟩

theorem made_z {w2 : World} {base q n : Nat} (ho : w2.ownsRow base 3 1 (.slice (some ⟨q, 0, none⟩) n n) n (madeCells (Value.int .i64 0).cells (n * 1)).toList) : OwnZ base w2 (.slice (some ⟨q, 0, none⟩) n n) n (List.replicate n 0) := by
  simp only [Value.cells, Nat.mul_one, toList_madeCells_one] at ho
  unfold OwnZ
  rw [List.map_replicate]
  exact ho

theorem OwnZ.stored {B q n c : Nat} {w : World} {l : List Int} (h : OwnZ B w (.slice (some ⟨q, 0, none⟩) n c) n l) (d : Nat) (z : Int) : OwnZ B (w.setCell ⟨q, d, none⟩ (.int .i64 z)) (.slice (some ⟨q, 0, none⟩) n c) n (l.set d z) := by
  have := (World.ownsRow.stored h d (.int .i64 z)).1
  unfold OwnZ
  rw [List.map_set]
  exact this

theorem OwnZ.at {B q n c : Nat} {w : World} {l : List Int} (h : OwnZ B w (.slice (some ⟨q, 0, none⟩) n c) n l) {d : Nat} {z : Int} (hz : l[d]? = some z) : w.cell? ⟨q, d, none⟩ = some (.int .i64 z) := by
  have hd : d < l.length := (List.getElem?_eq_some_iff.1 hz).1
  have := World.ownsRow.cellAt h d (by rw [← h.len]; omega)
  rw [List.getElem?_map, hz] at this
  exact this

theorem OwnZ.fr {B q n c : Nat} {w : World} {l : List Int} (h : OwnZ B w (.slice (some ⟨q, 0, none⟩) n c) n l) (d : Nat) : w.frozen? ⟨q, d, none⟩ = false := World.ownsRow.frozenAt h d

/-- What the second loop keeps. -/
structure AllI (w : World) (q n : Nat) (l : List Int) (W : World) : Prop where
  o : OwnZ w.heap.size W (.slice (some ⟨q, 0, none⟩) n n) n l
  b : Below w.heap.size w W

theorem AllI.below {w W W' : World} {q n : Nat} {l : List Int} (h : AllI w q n l W) (hb : Below W.heap.size W W') : AllI w q n l W' := ⟨h.o.below hb, below_on h.b hb⟩
theorem AllI.set {w W : World} {q n : Nat} {l : List Int} (h : AllI w q n l W) (d : Nat) (z : Int) : AllI w q n (l.set d z) (W.setCell ⟨q, d, none⟩ (.int .i64 z)) := ⟨h.o.stored d z, h.b.setCell (h.o.lt q rfl).1 _⟩

set_option maxRecDepth 100000 in
set_option maxHeartbeats 1000000 in
theorem sampleAll_walk (x y : Nat) (w : World) (hx : x < 256) (hy : y < 18446744073709551616) :
    Calls Try.prog 5 #[.int .u8 x, .int .u64 y] w fun e w' => e = .returned (.bool true) ∧ Below w.heap.size w w' := by
  obtain ⟨i0, hi, hz0, hz1, hz2⟩ := infoZ_parts
  obtain ⟨n, hn⟩ : ∃ n, 1 + x % 6 = n := ⟨_, rfl⟩
  obtain ⟨sd, hsd⟩ : ∃ sd, y % 64 = sd := ⟨_, rfl⟩
  have f1 : (1 : Int) + (x : Int) % 6 = (n : Int) := by omega
  have f2 : (y : Int) % 64 = (sd : Int) := by omega
  have hn1 : 1 ≤ n := by omega
  have hn6 : n ≤ 6 := by omega
  have hs64 : sd < 64 := by omega
  have HF : Hid (∀ i, i < n → 0 < cntO (outL sd n) i 200) := fun i hi => cntO_all hs64 hn1 hn6 hi
  clear hn hsd
  go_enter Try.func5, Try.ntmps5
  go_wp2_with fail
  refine (speaks9_any _).mono ?_
  rintro e w1 ⟨rfl, hb1⟩
  have B1 : Hid (Below w.heap.size w w1) := hb1
  clear hb1
  go_wp2_with fail
  refine (rnew_any _ [sd] _ (us_lit _ _ sd (by omega) _ rfl)).mono ?_
  rintro e w2 ⟨rfl, hr2, hb2, -⟩
  have B2 : Hid (Below w.heap.size w w2) := below_on (below_on B1.out (below_alloc _ _)) hb2
  have Z2 : Hid (w.heap.size ≤ (w1.alloc (.cells #[.int .u64 (sd : Int)] 26)).heap.size) := by have := B1.out.size; unfold Hid; simp; omega
  obtain ⟨r, hr⟩ : ∃ r, (w1.alloc (.cells #[.int .u64 (sd : Int)] 26)).heap.size = r := ⟨_, rfl⟩
  rw [hr] at hr2 Z2 ⊢
  have R2 : Hid (IsRand w2 r (seedTo 0 [sd])) := hr2
  clear hr2 hb2 hr B1
  generalize seedTo 0 [sd] = s2 at *
  obtain ⟨⟨t, l⟩, hT⟩ : ∃ p, someD s2 n n = p := ⟨_, rfl⟩
  have HL : Hid (l = (List.range n).map (fun i : Nat => (i : Int))) := by
    have := someD_all s2 n
    rw [hT] at this
    exact this
  have HT : Hid (someD s2 n n = (t, l)) := hT
  clear hT
  go_wp2_with fail
  refine (some_any r s2 n n _ R2.out (by omega) n (by unfold howMany; split <;> omega) t l HT).mono ?_
  rintro e w3 ⟨a3, c3, rfl, ho3, -, hk3⟩
  have B3 : Hid (Below w.heap.size w w3) := below_keeps B2.out Z2.out hk3
  have O3 : Hid (Zs w3 (.slice a3 n c3) l) := ho3.zs
  obtain ⟨-, ae, ce, hv3, hnc, hcm, -, hcells⟩ := O3.out
  injection hv3 with e1 e2 e3
  subst e1; subst e3
  rw [← e2] at hnc hcells
  unfold maxLen at hcm
  obtain ⟨g, off, rfl, hcell⟩ : ∃ b off, a3 = some ⟨b, off, none⟩ ∧ ∀ j u, (l.map (Value.int .i64))[j]? = some u → w3.cell? ⟨b, off + j, none⟩ = some u := by
    rcases hcells with h | h
    · omega
    · exact h
  have HC : Hid (∀ i, i < n → w3.cell? ⟨g, off + i, none⟩ = some (.int .i64 (i : Int))) := by
    intro i hi
    refine hcell i _ ?_
    rw [HL.out]
    simp [hi]
  clear ho3 hk3 hcells hcell e2 O3 R2 B2 HT HL Z2
  go_wp2
  go_loopw [29] (fun iv wr => ∃ i : Nat, i ≤ n ∧ iv = .int .i64 i ∧ wr = w3) (fun iv _ => n - (intOf iv).toNat)
  case atStart => exact ⟨0, by omega, rfl, rfl⟩
  case round =>
    obtain ⟨i, hin, rfl, rfl⟩ := hrel
    by_cases hlt : i < n
    · have hci := HC.out i hlt
      go_wp2
      go_roundw
      case rel => exact ⟨i + 1, by omega, by go_num, trivial⟩
      case measure => simp [intOf]; omega
    · clear HC
      go_wp2_with (at_make; refine wpList_make_full _ rfl _ _ 28 rfl w.heap.size 3 i0 (.int .i64 0) 1 Try.underlying28 hi hz0 hz1 _ _ _ _ n rfl rfl rfl rfl (by rw [hz2]; omega) (by unfold maxLen; omega) B3.out.size ?_; intro w4 ho4 hgrow4)
      have I4 : Hid (AllI w wr.heap.size n (outTo (outL sd n) n 0 0) w4) := by
        refine ⟨?_, below_on B3.out (below_fresh hgrow4)⟩
        rw [outTo_start]
        exact made_z ho4
      generalize wr.heap.size = q at *
      clear ho4 hgrow4 B3
      generalize hLL : outL sd n = L at HF I4
      have HLL : Hid (∀ s, outL sd n s = L s) := fun s => by rw [hLL]
      clear hLL
      go_loopw [47] (fun kv wr => ∃ k : Nat, k ≤ 200 ∧ kv = .int .u64 k ∧ Hid (AllI w q n (outTo L n k 0) wr)) (fun kv _ => 200 - (intOf kv).toNat)
      case atStart => exact ⟨0, by omega, rfl, I4⟩
      case round =>
        obtain ⟨k, hk, rfl, I⟩ := hrel
        clear I4
        by_cases hk2 : k < 200
        · obtain ⟨n1, hn1'⟩ : ∃ m : Nat, m = n - 1 := ⟨_, rfl⟩
          have f3 : (n : Int) - 1 = (n1 : Int) := by omega
          have HM1 : Hid (howMany n n1 = n1) := by unfold Hid howMany; split <;> omega
          have hn15 : n1 ≤ 5 := by omega
          clear hn1'
          go_wp2_with fail
          refine (rnew_any _ [sd, k] _ (us_lit2 _ _ sd k (by omega) (by omega) _ rfl)).mono ?_
          rintro e w5 ⟨rfl, hr5, hb5, -⟩
          have I5 : Hid (AllI w q n (outTo L n k 0) w5) := (I.out.below (below_alloc _ _)).below hb5
          obtain ⟨r5, hr⟩ : ∃ r, (wr.alloc (.cells #[.int .u64 (sd : Int), .int .u64 (k : Int)] 26)).heap.size = r := ⟨_, rfl⟩
          have Z5 : Hid (q < r5) := by
            have := (I.out.o.lt q rfl).2
            unfold Hid
            rw [← hr]
            simp
            omega
          have Y5 : Hid (w.heap.size ≤ r5) := by
            have := (I.out.o.lt q rfl).1
            have := Z5.out
            unfold Hid
            omega
          rw [hr] at hr5 ⊢
          have R5 : Hid (IsRand w5 r5 (seedTo 0 [sd, k])) := hr5
          clear hr5 hb5 hr I
          obtain ⟨⟨t5, l5⟩, hT5⟩ : ∃ p, someD (seedTo 0 [sd, k]) (n : Int) ((n : Int) - 1) = p := ⟨_, rfl⟩
          have HL5 : Hid (l5 = L k) := by
            have := HLL.out k
            unfold outL at this
            rw [hT5] at this
            exact this
          have HS5 : Hid (l5.Pairwise (· ≤ ·)) := by
            have := someD_sorted (seedTo 0 [sd, k]) (n : Int) ((n : Int) - 1)
            rw [hT5] at this
            exact this
          rw [f3] at hT5
          have HT5 : Hid (someD (seedTo 0 [sd, k]) (n : Int) (n1 : Int) = (t5, l5)) := hT5
          clear hT5
          generalize seedTo 0 [sd, k] = s5 at *
          go_wp2_with fail
          refine (some_any r5 s5 n n1 _ R5.out (by omega) n1 HM1.out t5 l5 HT5).mono ?_
          rintro e w6 ⟨a6, c6, rfl, ho6, -, hk6⟩
          have I6 : Hid (AllI w q n (outTo L n k 0) w6) := ⟨I5.out.o.kept (fun p hp => hk6.block p (I5.out.o.lt p hp).2 (by have e : q = p := Option.some.inj hp; have := Z5.out; omega)), below_keeps I5.out.b Y5.out hk6⟩
          have O6 : Hid (OwnZ w5.heap.size w6 (.slice a6 n1 c6) n1 l5) := ho6
          have Q6 : Hid (q < w5.heap.size) := (I5.out.o.lt q rfl).2
          have N6 : Hid (l5.length = n1) := ho6.len
          generalize w5.heap.size = bb at *
          clear ho6 hk6 I5 R5 HT5 Z5 Y5 f3 HM1
          rw [HL5.out] at O6 HS5 N6
          clear HL5
          go_wp2
          go_loopw [59] (fun jv wr => ∃ j : Nat, j ≤ n ∧ jv = .int .i64 j ∧ Hid (AllI w q n (outTo L n k j) wr) ∧ Hid (OwnZ bb wr (.slice a6 n1 c6) n1 (L k))) (fun jv _ => n - (intOf jv).toNat)
          case atStart => exact ⟨0, by omega, rfl, I6, O6⟩
          case round =>
            obtain ⟨j, hj, rfl, J, O⟩ := hrel
            clear I6 O6
            by_cases hjn : j < n
            · have HH : Hid (Calls Try.prog 19 #[.slice a6 n1 c6, .int .i64 j] wr fun e w' => e = .returned (.bool (decide ((j : Int) ∈ L k))) ∧ Below wr.heap.size wr w') := shas_any j _ (L k) wr O.out.zs (by rw [N6.out]; omega) HS5.out
              by_cases hm : (j : Int) ∈ L k
              · rw [decide_eq_true hm] at HH
                have HO : Hid (outTo L n k (j + 1) = outTo L n k j) := outTo_in hjn hm
                clear hm
                go_wp2_with fail
                refine HH.out.mono ?_
                rintro e w7 ⟨rfl, hb7⟩
                have J7 : Hid (AllI w q n (outTo L n k (j + 1)) w7) := by
                  unfold Hid
                  rw [HO.out]
                  exact J.out.below hb7
                have O7 : Hid (OwnZ bb w7 (.slice a6 n1 c6) n1 (L k)) := O.out.below hb7
                clear hb7 J O HH HO
                go_wp2
                go_roundw
                case rel => exact ⟨j + 1, by omega, by go_num, J7, O7⟩
                case measure => simp [intOf]; omega
              · rw [decide_eq_false hm] at HH
                have HO : Hid (outTo L n k (j + 1) = (outTo L n k j).set j ((cntO L j k : Int) + 1)) := outTo_out hjn hm
                have hcl := cntO_le L j k
                clear hm
                go_wp2_with fail
                refine HH.out.mono ?_
                rintro e w7 ⟨rfl, hb7⟩
                have J7 : Hid (AllI w q n (outTo L n k j) w7) := J.out.below hb7
                have O7 : Hid (OwnZ bb w7 (.slice a6 n1 c6) n1 (L k)) := O.out.below hb7
                have hcj := J7.out.o.at (outTo_at L n k j hjn)
                have hfj := J7.out.o.fr j
                have J8 : Hid (AllI w q n (outTo L n k (j + 1)) (w7.setCell ⟨q, j, none⟩ (.int .i64 ((cntO L j k : Int) + 1)))) := by
                  unfold Hid
                  rw [HO.out]
                  exact J7.out.set j _
                have O8 : Hid (OwnZ bb (w7.setCell ⟨q, j, none⟩ (.int .i64 ((cntO L j k : Int) + 1))) (.slice a6 n1 c6) n1 (L k)) := O7.out.kept (fun p hp => by
                  have h1 := (O7.out.lt p hp).1
                  have h2 := Q6.out
                  exact Below.heap_setCell _ _ _ _ (by simp; omega))
                clear hb7 J O HH HO J7 O7
                generalize cntO L j k = cj at *
                go_wp2
                go_roundw
                case rel => exact ⟨j + 1, by omega, by go_num, J8, O8⟩
                case measure => simp [intOf]; omega
            · obtain rfl : j = n := by omega
              have I7 : Hid (AllI w q j (outTo L j (k + 1) 0) wr) := by
                have := J.out
                rw [outTo_turn] at this
                exact this
              clear J O
              go_wp2
              go_roundw
              case rel => exact ⟨k + 1, by omega, by go_num, I7⟩
              case measure => simp [intOf]; omega
        · obtain rfl : k = 200 := by omega
          go_wp2
          go_loopw [76] (fun iv wr2 => ∃ i : Nat, i ≤ n ∧ iv = .int .i64 i ∧ Hid (AllI w q n (outTo L n 200 0) wr2)) (fun iv _ => n - (intOf iv).toNat)
          case atStart => exact ⟨0, by omega, rfl, I⟩
          case round =>
            clear I
            obtain ⟨i, hin, rfl, I⟩ := hrel
            by_cases hlt2 : i < n
            · have hci := I.out.o.at (outTo_last (L := L) (k := 200) hlt2)
              have hpos := HF.out i hlt2
              generalize cntO L i 200 = ci at *
              have hne : ((ci : Int) == 0) = false := by simp; omega
              go_wp2
              go_roundw
              case rel => exact ⟨i + 1, by omega, by go_num, I⟩
              case measure => simp [intOf]; omega
            · go_wp2
              go_ret
              exact ⟨rfl, I.out.b⟩

theorem sampleAll_law (x y : Int) (w : World) (hx : (Lit.int .u8 x).wf = true) (hy : (Lit.int .u64 y).wf = true) :
    Calls Try.prog 5 #[.int .u8 x, .int .u64 y] w fun e w' => e = .returned (.bool true) ∧ Below w.heap.size w w' := by
  simp [Lit.wf, IntKind.min, IntKind.max, IntKind.bits, IntKind.signed] at hx hy
  obtain ⟨a, rfl⟩ : ∃ a : Nat, x = a := ⟨x.toNat, by omega⟩
  obtain ⟨b, rfl⟩ : ∃ b : Nat, y = b := ⟨y.toNat, by omega⟩
  exact sampleAll_walk a b w (by omega) (by omega)

end Go.Proofs.Ythlladpappldbaa
