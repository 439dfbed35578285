/-
  OuterEach.
-/
import Derived.Carry
import Derived.Test.YthlladpappldbaaWOuter
import Derived.Test.YthlladpappldbaaLKey
import Derived.Test.YthlladpappldbaaOutE
import Derived.Test.YthlladpappldbaaSApart
import Derived.Test.YthlladpappldbaaSAll
namespace Go.Proofs.Ythlladpappldbaa
open Go.RowKit Go.Maps
set_option linter.unusedVariables false

/-- Which pairs were counted: those of the first m message blocks, and of the next one those of t. -/
def memF (S A Q m : Nat) (t : List Int) : Int → Int → Int := fun a b => if (0 ≤ a ∧ a < (m : Int) ∧ b ∈ ofD S A Q a.toNat) ∨ (a = (m : Int) ∧ b ∈ t) then 1 else 0

theorem memF_start (S A Q : Nat) : memF S A Q 0 [] = fun _ _ => 0 := by
  funext a b
  unfold memF
  rw [if_neg]
  rintro (⟨h1, h2, -⟩ | ⟨-, h⟩)
  · omega
  · cases h
theorem memF_next (S A Q m : Nat) (t : List Int) (x : Int) : setF (memF S A Q m t) m x 1 = memF S A Q m (t ++ [x]) := by
  funext a b
  unfold setF memF
  by_cases e : a = (m : Int) ∧ b = x
  · rw [if_pos e, if_pos (.inr ⟨e.1, by rw [e.2]; simp⟩)]
  · rw [if_neg e]
    by_cases h : (0 ≤ a ∧ a < (m : Int) ∧ b ∈ ofD S A Q a.toNat) ∨ (a = (m : Int) ∧ b ∈ t)
    · rw [if_pos h, if_pos]
      rcases h with h | h
      · exact .inl h
      · exact .inr ⟨h.1, by simp [h.2]⟩
    · rw [if_neg h, if_neg]
      rintro (h1 | ⟨h1, h2⟩)
      · exact h (.inl h1)
      · rcases List.mem_append.1 h2 with h2 | h2
        · exact h (.inr ⟨h1, h2⟩)
        · exact e ⟨h1, List.mem_singleton.1 h2⟩
theorem memF_turn (S A Q m : Nat) : memF S A Q m (ofD S A Q m) = memF S A Q (m + 1) [] := by
  funext a b
  unfold memF
  have key : ((0 ≤ a ∧ a < (m : Int) ∧ b ∈ ofD S A Q a.toNat) ∨ (a = (m : Int) ∧ b ∈ ofD S A Q m)) ↔ ((0 ≤ a ∧ a < ((m + 1 : Nat) : Int) ∧ b ∈ ofD S A Q a.toNat) ∨ (a = ((m + 1 : Nat) : Int) ∧ b ∈ ([] : List Int))) := by
    constructor
    · rintro (⟨h1, h2, h3⟩ | ⟨h1, h2⟩)
      · exact .inl ⟨h1, by omega, h3⟩
      · refine .inl ⟨by omega, by omega, ?_⟩
        rw [h1, Int.toNat_natCast]
        exact h2
    · rintro (⟨h1, h2, h3⟩ | ⟨-, h2⟩)
      · by_cases e : a = (m : Int)
        · refine .inr ⟨e, ?_⟩
          rw [e, Int.toNat_natCast] at h3
          exact h3
        · exact .inl ⟨h1, by omega, h3⟩
      · cases h2
  by_cases h : (0 ≤ a ∧ a < (m : Int) ∧ b ∈ ofD S A Q a.toNat) ∨ (a = (m : Int) ∧ b ∈ ofD S A Q m)
  · rw [if_pos h, if_pos (key.1 h)]
  · rw [if_neg h, if_neg (fun h2 => h (key.2 h2))]
theorem memF_new {S A Q m : Nat} {t : List Int} {x : Int} (h : x ∉ t) : memF S A Q m t m x = 0 := by
  unfold memF
  rw [if_neg]
  rintro (⟨-, h2, -⟩ | ⟨-, h2⟩)
  · omega
  · exact h h2
theorem memF_in {S A Q m i : Nat} {x : Int} (hi : i < m) (h : x ∈ ofD S A Q i) : memF S A Q m [] i x = 1 := by
  unfold memF
  rw [if_pos]
  exact .inl ⟨by omega, by omega, by rw [Int.toNat_natCast]; exact h⟩
theorem memF_range (S A Q m : Nat) (t : List Int) (a b : Int) : memF S A Q m t a b = 0 ∨ memF S A Q m t a b = 1 := by
  unfold memF
  split
  · exact .inr rfl
  · exact .inl rfl

theorem wf_nat {n : Nat} (h : n ≤ 100000000) : (Lit.int .i64 (n : Int)).wf = true := wf_i64 (by omega) (by omega)

theorem PrI.heap {w : World} {mb k : Nat} {f : Int → Int → Int} (h : PrI w mb k f) : ∃ es c, w.heap[mb]? = some (.map es c) := by
  obtain ⟨D, ⟨es, c, h1, _⟩, _⟩ := h
  exact ⟨es, c, h1⟩
theorem PrI.mono {w : World} {mb k k' : Nat} {f : Int → Int → Int} (h : PrI w mb k f) (hk : k ≤ k') : PrI w mb k' f := by
  obtain ⟨D, h1, h2, h3⟩ := h
  exact ⟨D, h1.mono hk, h2, h3⟩
theorem PrI.carry {w W : World} {mb k : Nat} {f : Int → Int → Int} (h : PrI w mb k f) (hk : KeepsBut (fun z => z = mb) w W) {p : Addr} {u : Value} (hc : w.cell? p = some u) : W.cell? p = some u := by
  obtain ⟨es, c, hm⟩ := h.heap
  have hne : p.block ≠ mb := by
    intro e
    rw [← e] at hm
    simp [World.cell?, hm] at hc
  exact (World.cell?_of_block (a := p) (hk.block p.block (cell_block_lt hc) hne)).trans hc
theorem IsGr.carry {w W : World} {g hb S N Q A : Nat} {vs : List Value} {rows : List (List Int)} (h : IsGr w g hb S N Q A vs rows) (hc : ∀ p u, w.cell? p = some u → W.cell? p = some u) : IsGr W g hb S N Q A vs rows :=
  ⟨hc _ _ h.c0, hc _ _ h.c1, hc _ _ h.c2, hc _ _ h.c3, h.lv, h.lr, fun i v hv => hc _ _ (h.cv i v hv), fun i v l hv hl => Sl.carry (h.rd i v l hv hl) hc⟩
theorem PrI.five {w W : World} {mb k : Nat} {f : Int → Int → Int} (h : PrI w mb k f) (hk : KeepsBut (fun z => z = mb) w W) {b : Nat} {n o p q r : Int} (hb : FiveB w b n o p q r) : FiveB W b n o p q r := by
  obtain ⟨es, c, hm⟩ := h.heap
  have hne : b ≠ mb := by
    intro e
    unfold FiveB at hb
    rw [e, hm] at hb
    cases hb
  exact (hk.block b hb.lt hne).trans hb
theorem PrI.own {w W : World} {mb k : Nat} {f : Int → Int → Int} (h : PrI w mb k f) (hk : KeepsBut (fun z => z = mb) w W) {B : Nat} {v : Value} {n : Nat} {l : List Int} (ho : OwnZ B w v n l) : OwnZ B W v n l := by
  obtain ⟨es, c, hm⟩ := h.heap
  refine ho.kept (fun q hq => hk.block q (ho.lt q hq).2 (fun e => ?_))
  obtain ⟨cur, hh⟩ := own_cells ho hq
  have e' : q = mb := e
  rw [e', hm] at hh
  cases hh

/-- Between the two halves of 'm[k]++'. -/
def IsEn (mb k : Nat) (f : Int → Int → Int) (i j c : Int) (two : Bool) : Value → World → Prop := fun v W => ∃ (st : Nat) (es : Array MapEntry) (c1 : Nat), v = (if two then .tuple #[.int .i64 c, goInt st] else goInt st) ∧ W.heap[mb]? = some (.map es c1) ∧ PrI W mb k f ∧
  ∀ (w2 : World) (z : Int), (Lit.int .i64 z).wf = true → w2.heap[mb]? = some (.map es c1) → ∃ w3, (Instr.entryStore 57 (.map (some mb)) (goInt st) (.int .i64 z)).run Try.prog w2 = .ok () w3 ∧ PrI w3 mb k (setF f i j z) ∧ w2.grownBy w3 (some mb)
theorem stays_en (mb k : Nat) (f : Int → Int → Int) (i j c : Int) (two : Bool) : Stays (IsEn mb k f i j c two) := fun _ _ _ hb ⟨st, es, c1, h1, h2, h3, h4⟩ => ⟨st, es, c1, h1, heap_stays hb h2, h3.below hb, h4⟩
def IsPd (mb k : Nat) (f : Int → Int → Int) : Value → World → Prop := fun _ W => PrI W mb k f
theorem stays_pd (mb k : Nat) (f : Int → Int → Int) : Stays (IsPd mb k f) := fun _ _ _ hb h => h.below hb

set_option maxRecDepth 100000 in
set_option maxHeartbeats 4000000 in
theorem outerEach_walk (N0 B Q E F : Int) (S : Nat) (w : World) (hS : S < 18446744073709551616) :
    Calls Try.prog 7 #[.agg #[.int .i64 N0, .int .i64 B, .int .i64 Q, .int .i64 E, .int .i64 F], .int .u64 S] w fun e w' => e = .returned (.bool true) ∧ Below w.heap.size w w' := by
  obtain ⟨N, hN⟩ : ∃ N, smallN N0 = N := ⟨_, rfl⟩
  have hN60 : N ≤ 60 := by rw [← hN]; exact smallN_le _
  have CS : Hid (∀ W, Calls Try.prog 23 #[.agg #[.int .i64 N0, .int .i64 B, .int .i64 Q, .int .i64 E, .int .i64 F]] W fun e w' => e = .returned (.agg #[.int .i64 N, .int .i64 B, .int .i64 Q, .int .i64 E, .int .i64 F]) ∧ Below W.heap.size W w') := by
    intro W
    rw [← hN]
    exact smaller_any N0 B Q E F W
  clear hN
  go_enter Try.func7, Try.ntmps7
  go_wp2_with fail
  refine (speaks10_any _).mono ?_
  rintro e w1 ⟨rfl, hb1⟩
  have B1 : Hid (Below w.heap.size w w1) := below_on (below_alloc _ _) hb1
  have P1 : Hid (FiveB w1 w.heap.size N0 B Q E F) := (FiveB.new w _ _ _ _ _).below hb1
  obtain ⟨c0, c1, c2, c3, c4⟩ := P1.out.five
  clear hb1
  go_wp2_with fail
  refine (CS.out _).mono ?_
  rintro e w2 ⟨rfl, hb2⟩
  have B2 : Hid (Below w.heap.size w w2) := below_on B1.out hb2
  have P2 : Hid (FiveB w2 w.heap.size N0 B Q E F) := P1.out.below hb2
  clear hb2 B1 P1 CS c0 c1 c2 c3 c4
  obtain ⟨c0, c1, c2, c3, c4⟩ := P2.out.five
  have f0 := P2.out.fr 0
  have f1 := P2.out.fr 1
  have f2 := P2.out.fr 2
  have f3 := P2.out.fr 3
  have f4 := P2.out.fr 4
  have B3 : Hid (Below w.heap.size w (((((w2.setCell ⟨w.heap.size, 0, none⟩ (.int .i64 N)).setCell ⟨w.heap.size, 1, none⟩ (.int .i64 B)).setCell ⟨w.heap.size, 2, none⟩ (.int .i64 Q)).setCell ⟨w.heap.size, 3, none⟩ (.int .i64 E)).setCell ⟨w.heap.size, 4, none⟩ (.int .i64 F))) := below5 B2.out (Nat.le_refl _) _ _ _ _ _
  have P3 : Hid (FiveB (((((w2.setCell ⟨w.heap.size, 0, none⟩ (.int .i64 N)).setCell ⟨w.heap.size, 1, none⟩ (.int .i64 B)).setCell ⟨w.heap.size, 2, none⟩ (.int .i64 Q)).setCell ⟨w.heap.size, 3, none⟩ (.int .i64 E)).setCell ⟨w.heap.size, 4, none⟩ (.int .i64 F)) w.heap.size N B Q E F) := fiveB_store P2.out _ _ _ _ _
  go_upto_region 4 with fail
  generalize ((((w2.setCell ⟨w.heap.size, 0, none⟩ (.int .i64 N)).setCell ⟨w.heap.size, 1, none⟩ (.int .i64 B)).setCell ⟨w.heap.size, 2, none⟩ (.int .i64 Q)).setCell ⟨w.heap.size, 3, none⟩ (.int .i64 E)).setCell ⟨w.heap.size, 4, none⟩ (.int .i64 F) = w3 at *
  clear c0 c1 c2 c3 c4 f0 f1 f2 f3 f4 B2 P2
  obtain ⟨c0, c1, c2, c3, c4⟩ := P3.out.five
  by_cases hp : May N B Q E F
  · have MP : Hid (∀ W, Calls Try.prog 24 #[.agg #[.int .i64 N, .int .i64 B, .int .i64 Q, .int .i64 E, .int .i64 F]] W fun e w' => e = .returned (.bool true) ∧ Below W.heap.size W w') := fun W => rmay_yes N B Q E F W hp
    obtain ⟨n, q, A, hpr⟩ := PrOk.of hp
    have hok := hpr.ok hS
    obtain rfl := hpr.en
    obtain rfl := hpr.eq
    have OK : Hid (GrOk S n q A) := hok
    have hA := hok.a
    have hq8 := hok.q
    have hq1 := hok.q1
    have CM : Hid (∀ W, Calls Try.prog 22 #[.agg #[.int .i64 n, .int .i64 B, .int .i64 q, .int .i64 E, .int .i64 F], .int .u64 S] W fun e w' => ∃ g ro vs, e = .returned (.tuple #[.pointer (some ⟨g, 0, none⟩), .int .i64 0]) ∧ IsGr w' g ro S n q A vs (hasR S A q n) ∧ Below W.heap.size W w') := fun W => onew_yes B E F n q A S W hpr hS
    have HTot : Hid (total (hasR S A q n) = n * q) := total_has hok.q1 hok.qa n
    have HRow : Hid (∀ j r, (hasR S A q n)[j]? = some r → RowOk S A q n j r ∧ r.length ≤ n) := fun j r h => ⟨hasR_ok S A q n j r h, hasR_short n j r h⟩
    have HRL : Hid ((hasR S A q n).length = A) := hasR_length S A q n
    clear hp hpr hok hS
    generalize hasR S A q n = rows at *
    go_wp2_with fail
    refine (MP.out _).mono ?_
    rintro e w4 ⟨rfl, hb4⟩
    have B4 : Hid (Below w.heap.size w w4) := below_on B3.out hb4
    have P4 : Hid (FiveB w4 w.heap.size n B q E F) := P3.out.below hb4
    clear hb4 B3 P3 MP c0 c1 c2 c3 c4
    obtain ⟨c0, c1, c2, c3, c4⟩ := P4.out.five
    go_wp2_with fail
    refine (CM.out _).mono ?_
    rintro e w5 ⟨gp, rp, vp, rfl, hg5, hb5⟩
    have G5 : Hid (IsGr w5 gp rp S n q A vp rows) := hg5
    have B5 : Hid (Below w.heap.size w w5) := below_on B4.out hb5
    have P5 : Hid (FiveB w5 w.heap.size n B q E F) := P4.out.below hb5
    have M6 : Hid (PrI (w5.alloc (.map #[] 0)) w5.heap.size 0 (memF S A q 0 [])) := by unfold Hid; rw [memF_start]; exact PrI.start w5
    have G6 : Hid (IsGr (w5.alloc (.map #[] 0)) gp rp S n q A vp rows) := G5.out.below (below_alloc _ _)
    have B6 : Hid (Below w.heap.size w (w5.alloc (.map #[] 0))) := B5.out.alloc B5.out.size _
    have P6 : Hid (FiveB (w5.alloc (.map #[] 0)) w.heap.size n B q E F) := P5.out.below (below_alloc _ _)
    have HMB : Hid (w.heap.size ≤ w5.heap.size) := B5.out.size
    clear hg5 hb5 B4 P4 CM c0 c1 c2 c3 c4 G5 B5 P5
    obtain ⟨c0, c1, c2, c3, c4⟩ := P6.out.five
    have hmm := @run_makeMap Try.prog
    go_wp2
    clear c0 c1 c2 c3 c4 hmm
    generalize w5.heap.size = mb at *
    go_loopw [38] (fun iv wr => ∃ i : Nat, i ≤ n ∧ iv = .int .i64 i ∧ Hid (PrI wr mb (16 * i) (memF S A q i [])) ∧ Hid (IsGr wr gp rp S n q A vp rows) ∧ Hid (Below w.heap.size w wr) ∧ Hid (FiveB wr w.heap.size n B q E F)) (fun iv _ => n - (intOf iv).toNat)
    case atStart => exact ⟨0, by omega, rfl, M6, G6, B6, P6⟩
    case round =>
      clear M6 G6 B6 P6
      obtain ⟨i, hi, rfl, HM, HG, HB, HP⟩ := hrel
      by_cases hlt : i < n
      · go_wp2_with fail
        refine (oof_yes gp rp S n q A i vp rows _ HG.out OK.out hlt).mono ?_
        rintro e w7 ⟨a7, k7, rfl, ho7, hb7⟩
        have HLq : Hid ((ofD S A q i).length = q) := ofD_length OK.out.q1 OK.out.qa
        have HLm : Hid (∀ x ∈ ofD S A q i, 0 ≤ x ∧ x < (A : Int)) := fun x hx => ofD_mem hx
        have HLr : Hid ((ofD S A q i).Pairwise (· < ·)) := ofD_rises S A q i
        have HTn : Hid (memF S A q i (ofD S A q i) = memF S A q (i + 1) []) := memF_turn S A q i
        have M7 : Hid (PrI w7 mb (16 * i) (memF S A q i ((ofD S A q i).take 0))) := HM.out.below hb7
        have G7 : Hid (IsGr w7 gp rp S n q A vp rows) := HG.out.below hb7
        have B7 : Hid (Below w.heap.size w w7) := below_on HB.out hb7
        have P7 : Hid (FiveB w7 w.heap.size n B q E F) := HP.out.below hb7
        have O7 : Hid (OwnZ 0 w7 (.slice a7 q k7) q (ofD S A q i)) := ho7.mono (Nat.zero_le _)
        obtain ⟨lb, lc, el, -, hlc, hlm⟩ := owned_shape ho7 hq1
        injection el with e1 _ e3
        subst e1; subst e3
        unfold maxLen at hlm
        generalize ofD S A q i = l at *
        clear ho7 hb7 HM HG HB HP
        go_wp2
        go_loopw [46] (fun kv wr => ∃ k : Nat, k ≤ q ∧ kv = .int .i64 k ∧ Hid (PrI wr mb (16 * i + k) (memF S A q i (l.take k))) ∧ Hid (OwnZ 0 wr (.slice (some ⟨lb, 0, none⟩) q k7) q l) ∧ Hid (IsGr wr gp rp S n q A vp rows) ∧ Hid (Below w.heap.size w wr) ∧ Hid (FiveB wr w.heap.size n B q E F)) (fun kv _ => q - (intOf kv).toNat)
        case atStart => exact ⟨0, by omega, rfl, M7, O7, G7, B7, P7⟩
        case round =>
          clear M7 O7 G7 B7 P7
          obtain ⟨k, hkq, rfl, HM, HO, HG, HB, HP⟩ := hrel
          by_cases hlk : k < q
          · have hkl : k < l.length := by rw [HLq.out]; exact hlk
            have hrg := HLm.out l[k] (List.getElem_mem hkl)
            obtain ⟨x, hx⟩ : ∃ x : Nat, l[k] = (x : Int) := ⟨l[k].toNat, by omega⟩
            have hxA : x < A := by omega
            have hck : wr.cell? ⟨lb, k, none⟩ = some (.int .i64 (x : Int)) := by
              have := HO.out.at (List.getElem?_eq_getElem hkl)
              rw [hx] at this
              exact this
            have HF0 : Hid (memF S A q i (l.take k) i x = 0) := by
              refine memF_new ?_
              intro hm
              obtain ⟨y, hy, ey⟩ := List.getElem_of_mem hm
              have hp := HLr.out
              rw [List.pairwise_iff_getElem] at hp
              have hyk : y < k := by simp at hy; omega
              have := hp y k (by omega) hkl hyk
              rw [List.getElem_take] at ey
              omega
            have HFn : Hid (setF (memF S A q i (l.take k)) i x 1 = memF S A q i (l.take (k + 1))) := by
              unfold Hid
              rw [memF_next, List.take_succ_eq_append_getElem hkl, hx]
            have hpre : ∀ p, k = p + 1 → ∃ y : Int, wr.cell? ⟨lb, p, none⟩ = some (.int .i64 y) ∧ ¬ y ≥ (x : Int) := by
              intro p hp
              subst hp
              have hpl : p < l.length := by omega
              refine ⟨l[p], HO.out.at (List.getElem?_eq_getElem hpl), ?_⟩
              have := pairwise_at HLr.out hkl
              rw [hx] at this
              omega
            have HPre : Hid (∀ p, k = p + 1 → ∃ y : Int, wr.cell? ⟨lb, p, none⟩ = some (.int .i64 y) ∧ ¬ y ≥ (x : Int)) := hpre
            generalize memF S A q i (l.take k) = f at *
            have wfi : Hid ((Lit.int .i64 (i : Int)).wf = true) := wf_nat (by omega)
            have wfx : Hid ((Lit.int .i64 (x : Int)).wf = true) := wf_nat (by omega)
            have HML : Hid (∀ W kx, PrI W mb kx f → (Instr.lookup 57 (.map (some mb)) (.agg #[.int .i64 (i : Int), .int .i64 (x : Int)]) false).run Try.prog W = .ok (.int .i64 0) W) := by
              intro W kx hW
              have := hW.look wfi.out wfx.out
              rw [HF0.out] at this
              exact this
            have HME : Hid (∀ W, PrI W mb (16 * i + k) f → ∃ (st : Nat) (es1 : Array MapEntry) (c1 : Nat) (w1 : World), (Instr.mapEntry 57 (.map (some mb)) (.agg #[.int .i64 (i : Int), .int .i64 (x : Int)])).run Try.prog W = .ok (.tuple #[.int .i64 0, goInt st]) w1 ∧ w1.heap[mb]? = some (.map es1 c1) ∧ PrI w1 mb (16 * i + k + 1) f ∧ W.grownBy w1 (some mb) ∧
                ∀ (w2 : World) (z : Int), (Lit.int .i64 z).wf = true → w2.heap[mb]? = some (.map es1 c1) → ∃ w3, (Instr.entryStore 57 (.map (some mb)) (goInt st) (.int .i64 z)).run Try.prog w2 = .ok () w3 ∧ PrI w3 mb (16 * i + k + 1) (setF f i x z) ∧ w2.grownBy w3 (some mb)) := by
              intro W hW
              have := hW.entry (by omega) wfi.out wfx.out (by rw [HF0.out]; decide)
              rw [HF0.out] at this
              exact this
            clear hrg hx hkl hpre
            go_upto_region 17 with fail
            refine wp_region_any (by kernel_rfl) ?_
            obtain ⟨gs, hgs⟩ : ∃ gs : List (Value → World → Prop), gs = [IsV (Value.map (some mb)), IsV (Value.int IntKind.i64 ↑i), IsV (Value.int IntKind.i64 ↑x), IsV (.agg #[.int .i64 (i : Int), .int .i64 (x : Int)]), IsV (.int .i64 0), IsV (.int .i64 1), IsAnyV, IsAnyV, IsAnyV] := ⟨_, rfl⟩
            have g0 : Hid (gs[0]? = some (IsV (Value.map (some mb)))) := by unfold Hid; rw [hgs]; rfl
            have g1 : Hid (gs[1]? = some (IsV (Value.int IntKind.i64 ↑i))) := by unfold Hid; rw [hgs]; rfl
            have g2 : Hid (gs[2]? = some (IsV (Value.int IntKind.i64 ↑x))) := by unfold Hid; rw [hgs]; rfl
            have g3 : Hid (gs[3]? = some (IsV (.agg #[.int .i64 (i : Int), .int .i64 (x : Int)]))) := by unfold Hid; rw [hgs]; rfl
            have g4 : Hid (gs[4]? = some (IsV (.int .i64 0))) := by unfold Hid; rw [hgs]; rfl
            have g5 : Hid (gs[5]? = some (IsV (.int .i64 1))) := by unfold Hid; rw [hgs]; rfl
            have g6 : Hid (gs[6]? = some (IsAnyV)) := by unfold Hid; rw [hgs]; rfl
            have g7 : Hid (gs[7]? = some (IsAnyV)) := by unfold Hid; rw [hgs]; rfl
            have g8 : Hid (gs[8]? = some (IsAnyV)) := by unfold Hid; rw [hgs]; rfl
            have gk : Hid (∀ p ∈ gs, ∀ v (U U' : World), p v U → p v U') := by
              unfold Hid
              rw [hgs]
              simp only [List.forall_mem_cons]
              exact ⟨(fun _ _ _ h => h), (fun _ _ _ h => h), (fun _ _ _ h => h), (fun _ _ _ h => h), (fun _ _ _ h => h), (fun _ _ _ h => h), (fun _ _ _ h => h), (fun _ _ _ h => h), (fun _ _ _ h => h), by simp⟩
            clear hgs
            have JS : Hid (∀ W W', Below W.heap.size W W' → (fun W => KeepsBut (fun z => z = mb) wr W) W → (fun W => KeepsBut (fun z => z = mb) wr W) W') := fun W W' hb h => h.trans (KeepsBut.ofBelow hb)
            have st6 : Hid (Stays (IsEn mb (16 * i + k + 1) f i x 0 true)) := stays_en _ _ _ _ _ _ _
            have st7 : Hid (Stays (IsEn mb (16 * i + k + 1) f i x 0 false)) := stays_en _ _ _ _ _ _ _
            have st8 : Hid (Stays (IsPd mb (16 * i + k + 1) (setF f i x 1))) := stays_pd _ _ _
            have su6 : Hid (∀ W W', Below W.heap.size W W' → (fun W => PrI W mb (16 * i + k) f) W → (fun W => PrI W mb (16 * i + k) f) W') := fun W W' hb h => h.below hb
            refine wpAny_inv4 (fun listed ac W => ∃ xv : Nat → Value, ac = ⟨#[Value.agg #[Value.int IntKind.i64 N0, Value.int IntKind.i64 B, Value.int IntKind.i64 ↑q, Value.int IntKind.i64 E, Value.int IntKind.i64 F], Value.int IntKind.u64 ↑S, Value.pointer (some { block := w.heap.size, off := 0 }), undef, u4, Value.pointer (some { block := gp, off := 0 }), Value.int IntKind.i64 (0 : Int), Value.map (some mb), Value.int IntKind.i64 ↑i, Value.slice (some { block := lb, off := 0 }) q k7, Value.int IntKind.i64 ↑k, Value.int IntKind.i64 ↑x, undef, undef, undef, undef, Value.bool true, Value.bool false, Value.agg #[Value.int IntKind.i64 N0, Value.int IntKind.i64 B, Value.int IntKind.i64 ↑q, Value.int IntKind.i64 E, Value.int IntKind.i64 F], Value.agg #[Value.int IntKind.i64 ↑n, Value.int IntKind.i64 B, Value.int IntKind.i64 ↑q, Value.int IntKind.i64 E, Value.int IntKind.i64 F], Value.agg #[Value.int IntKind.i64 ↑n, Value.int IntKind.i64 B, Value.int IntKind.i64 ↑q, Value.int IntKind.i64 E, Value.int IntKind.i64 F], Value.bool true, Value.bool false, Value.tuple #[Value.pointer (some { block := gp, off := 0 }), Value.int IntKind.i64 (0 : Int)], Value.agg #[Value.int IntKind.i64 ↑n, Value.int IntKind.i64 B, Value.int IntKind.i64 ↑q, Value.int IntKind.i64 E, Value.int IntKind.i64 F], Value.int IntKind.u64 ↑S, Value.tuple #[Value.pointer (some { block := gp, off := 0 }), Value.int IntKind.i64 (0 : Int)], Value.pointer (some { block := gp, off := 0 }), Value.int IntKind.i64 (0 : Int), Value.int IntKind.i64 (0 : Int), Value.bool false, Value.bool false, Value.pointer (some { block := gp, off := 0 }), Value.bool false, Value.bool false, Value.map (some mb), Value.pointer (some { block := w.heap.size, off := 0 }), Value.int IntKind.i64 ↑n, Value.int IntKind.i64 ↑i, Value.bool true, Value.int IntKind.i64 ↑i, Value.pointer (some { block := gp, off := 0 }), Value.int IntKind.i64 ↑i, Value.slice (some { block := lb, off := 0 }) q k7, Value.slice (some { block := lb, off := 0 }) q k7, Value.int IntKind.i64 ↑q, Value.int IntKind.i64 ↑k, Value.bool true, Value.int IntKind.i64 ↑k, Value.pointer (some { block := lb, off := k }), Value.int IntKind.i64 ↑x, xv 0, xv 1, xv 2, xv 3, xv 4, xv 5, xv 6, xv 7, u59, u60, u61, u62, u63, u64, u65, u66, u67, u68, u69, u70, u71, u72, u73, u74, u75, u76, undef, undef, undef, undef, undef, undef, undef, undef, undef, undef, undef, undef, undef, undef, undef, undef, undef, undef, undef, undef, undef, undef, undef, undef, undef, undef, undef, undef, undef, undef], []⟩ ∧ (fun W => KeepsBut (fun z => z = mb) wr W) W ∧ Lst gs listed xv W ∧ Fd listed xv W 6 8 (IsEn mb (16 * i + k + 1) f i x 0 true) ∧ Fd listed xv W 7 8 (IsEn mb (16 * i + k + 1) f i x 0 false) ∧ Fe listed xv W 8 (IsPd mb (16 * i + k + 1) (setF f i x 1)) ∧ Fz listed W 6 (fun W => PrI W mb (16 * i + k) f)) (by kernel_rfl) ?_ ?_ _ _ _ _ (by kernel_rfl) (of_decide_eq_true (by kernel_rfl)) (Down.start _) ⟨fun jx => if jx = 0 then u51 else if jx = 1 then u52 else if jx = 2 then u53 else if jx = 3 then u54 else if jx = 4 then u55 else if jx = 5 then u56 else if jx = 6 then u57 else if jx = 7 then u58 else undef, rfl, KeepsBut.drew _ _, Lst.start _ _ _ _, Fd.start _ _ _ _ _ _, Fd.start _ _ _ _ _ _, Fe.start _ _ _ _ _, Fz.start (HM.out.below (below0 _))⟩
            · rintro listed ac W ⟨xv, rfl, hb, hG, hF6, hF7, hF8, hU6⟩ hD i hi hnl hd
              have hin : i < 9 := hi
              clear hi
              have hcase : i = 0 ∨ i = 1 ∨ i = 2 ∨ i = 3 ∨ i = 4 ∨ i = 5 ∨ i = 6 ∨ i = 7 ∨ i = 8 := by omega
              rcases hcase with rfl | rfl | rfl | rfl | rfl | rfl | rfl | rfl | rfl
              · refine wpOp_step rfl (fun K' hK => ?_)
                clear hd hin hD
                go_simp
                exact hK _ _ ⟨updV xv 0 (Value.map (some mb)), by simp [updV], hb, hG.any gk.out g0.out _ rfl, hF6.step (fun _ h => h) (by decide) (by decide) _, hF7.step (fun _ h => h) (by decide) (by decide) _, hF8.step (fun _ h => h) (by decide) _, hU6.step (fun h => h) (by decide)⟩
              · refine wpOp_step rfl (fun K' hK => ?_)
                clear hd hin hD
                go_simp
                exact hK _ _ ⟨updV xv 1 (Value.int IntKind.i64 ↑i), by simp [updV], hb, hG.any gk.out g1.out _ rfl, hF6.step (fun _ h => h) (by decide) (by decide) _, hF7.step (fun _ h => h) (by decide) (by decide) _, hF8.step (fun _ h => h) (by decide) _, hU6.step (fun h => h) (by decide)⟩
              · refine wpOp_step rfl (fun K' hK => ?_)
                clear hd hin hD
                go_simp
                exact hK _ _ ⟨updV xv 2 (Value.int IntKind.i64 ↑x), by simp [updV], hb, hG.any gk.out g2.out _ rfl, hF6.step (fun _ h => h) (by decide) (by decide) _, hF7.step (fun _ h => h) (by decide) (by decide) _, hF8.step (fun _ h => h) (by decide) _, hU6.step (fun h => h) (by decide)⟩
              · refine wpOp_step rfl (fun K' hK => ?_)
                simp [Region.binds] at hd
                have e1 : xv 1 = Value.int IntKind.i64 ↑i := hG.get g1.out (by simp [hd])
                have e2 : xv 2 = Value.int IntKind.i64 ↑x := hG.get g2.out (by simp [hd])
                clear hd hin hD
                go_simp
                exact hK _ _ ⟨updV xv 3 (.agg #[.int .i64 (i : Int), .int .i64 (x : Int)]), by simp [updV, e1, e2], hb, hG.any gk.out g3.out _ rfl, hF6.step (fun _ h => h) (by decide) (by decide) _, hF7.step (fun _ h => h) (by decide) (by decide) _, hF8.step (fun _ h => h) (by decide) _, hU6.step (fun h => h) (by decide)⟩
              · refine wpOp_step rfl (fun K' hK => ?_)
                simp [Region.binds] at hd
                have e0 : xv 0 = Value.map (some mb) := hG.get g0.out (by simp [hd])
                have e3 : xv 3 = .agg #[.int .i64 (i : Int), .int .i64 (x : Int)] := hG.get g3.out (by simp [hd])
                have f8 : listed.getD 8 false = false := by
                  cases hx : listed.getD 8 false with
                  | false => rfl
                  | true =>
                    have r4 : listed.getD 4 false = true := by have h := hD 8 (by decide) hx; simp [Region.binds] at h; simp [h]
                    rw [getD_false hnl] at r4; cases r4
                have kr : (Instr.lookup 57 (.map (some mb)) (.agg #[.int .i64 (i : Int), .int .i64 (x : Int)]) false).run Try.prog W = .ok (.int .i64 0) W := by
                  cases h6 : listed.getD 6 false with
                  | false => exact HML.out W _ (hU6 h6)
                  | true =>
                    obtain ⟨st, es, c1, -, -, hPm, -⟩ := hF6 h6 f8
                    exact HML.out W _ hPm
                clear hd hin hD
                go_simp
                exact hK _ _ ⟨updV xv 4 (.int .i64 0), by simp [updV, e0, e3], hb, hG.any gk.out g4.out _ rfl, hF6.step (fun _ h => h) (by decide) (by decide) _, hF7.step (fun _ h => h) (by decide) (by decide) _, hF8.step (fun _ h => h) (by decide) _, hU6.step (fun h => h) (by decide)⟩
              · refine wpOp_step rfl (fun K' hK => ?_)
                simp [Region.binds] at hd
                have e4 : xv 4 = .int .i64 0 := hG.get g4.out (by simp [hd])
                clear hd hin hD
                go_simp
                exact hK _ _ ⟨updV xv 5 (.int .i64 1), by simp [updV, e4, (by decide : IntKind.i64.wrap 1 = 1)], hb, hG.any gk.out g5.out _ rfl, hF6.step (fun _ h => h) (by decide) (by decide) _, hF7.step (fun _ h => h) (by decide) (by decide) _, hF8.step (fun _ h => h) (by decide) _, hU6.step (fun h => h) (by decide)⟩
              · refine wpOp_step rfl (fun K' hK => ?_)
                simp [Region.binds] at hd
                have e0 : xv 0 = Value.map (some mb) := hG.get g0.out (by simp [hd])
                have e3 : xv 3 = .agg #[.int .i64 (i : Int), .int .i64 (x : Int)] := hG.get g3.out (by simp [hd])
                have f7 : listed.getD 7 false = false := by
                  cases hx : listed.getD 7 false with
                  | false => rfl
                  | true =>
                    have r6 : listed.getD 6 false = true := by have h := hD 7 (by decide) hx; simp [Region.binds] at h; simp [h]
                    rw [getD_false hnl] at r6; cases r6
                have f8 : listed.getD 8 false = false := by
                  cases hx : listed.getD 8 false with
                  | false => rfl
                  | true =>
                    have r6 : listed.getD 6 false = true := by have h := hD 8 (by decide) hx; simp [Region.binds] at h; simp [h]
                    rw [getD_false hnl] at r6; cases r6
                have u6 := hU6.get hnl
                clear hd hin hD
                obtain ⟨st, es1, c1, w1x, hrun, hh1, hP1, hg1, hst1⟩ := HME.out W u6
                go_simp
                exact hK _ _ ⟨updV xv 6 (.tuple #[.int .i64 0, goInt st]), by simp [updV, e0, e3, goInt], hb.trans (KeepsBut.ofGrown hg1 rfl), hG.any gk.out g6.out _ trivial, Fd.new (⟨st, es1, c1, rfl, hh1, hP1, hst1⟩), Fd.yet f7 (by decide) _, Fe.yet f8 (by decide) _, Fz.off hnl⟩
              · refine wpOp_step rfl (fun K' hK => ?_)
                simp [Region.binds] at hd
                have l6 : listed.getD 6 false = true := by simp [hd]
                have f8 : listed.getD 8 false = false := by
                  cases hx : listed.getD 8 false with
                  | false => rfl
                  | true =>
                    have r7 : listed.getD 7 false = true := by have h := hD 8 (by decide) hx; simp [Region.binds] at h; simp [h]
                    rw [getD_false hnl] at r7; cases r7
                have m6 := hF6 l6 f8
                clear hd hin hD
                obtain ⟨st, es1, c1, e6, hh1, hP1, hst1⟩ := m6
                simp only [if_true] at e6
                go_simp
                exact hK _ _ ⟨updV xv 7 (goInt st), by simp [updV, e6, goInt], hb, hG.any gk.out g7.out _ trivial, hF6.step (fun _ h => h) (by decide) (by decide) _, Fd.new (⟨st, es1, c1, rfl, hh1, hP1, hst1⟩), hF8.step (fun _ h => h) (by decide) _, hU6.step (fun h => h) (by decide)⟩
              · refine wpOp_step rfl (fun K' hK => ?_)
                simp [Region.binds] at hd
                have e0 : xv 0 = Value.map (some mb) := hG.get g0.out (by simp [hd])
                have l7 : listed.getD 7 false = true := by simp [hd]
                have m7 := hF7.get l7 hnl
                have e5 : xv 5 = .int .i64 1 := hG.get g5.out (by simp [hd])
                have q6 : listed.getD 6 false = true := by simp [hd]
                clear hd hin hD
                obtain ⟨st, es1, c1, e7, hh1, hP1, hst1⟩ := m7
                simp only [Bool.false_eq_true, if_false] at e7
                obtain ⟨w3x, hrun, hP3, hg3⟩ := hst1 W 1 (by decide) hh1
                unfold goInt at e7 hrun
                go_simp
                exact hK _ _ ⟨updV xv 8 undef, by simp [updV, e0, e7, e5], hb.trans (KeepsBut.ofGrown hg3 rfl), hG.any gk.out g8.out _ trivial, Fd.off hnl, Fd.off hnl, Fe.new (hP3), Fz.gone q6 (by decide)⟩
            · rintro listed ac W ⟨xv, rfl, hb, hG, hF6, hF7, hF8, hU6⟩ hall
              have m8 : Hid ((IsPd mb (16 * i + k + 1) (setF f i x 1)) (xv 8) W) := hF8 (hall 8 (by decide))
              have XW : Hid ((fun W => KeepsBut (fun z => z = mb) wr W) W) := hb
              clear hall hG hb gk JS g0 g1 g2 g3 g4 g5 g6 g7 g8 hF6 st6 hF7 st7 hF8 st8 hU6 su6
              have M8 : Hid (PrI W mb (16 * i + (k + 1)) (memF S A q i (l.take (k + 1)))) := by
                have := m8.out
                unfold IsPd at this
                rw [HFn.out] at this
                exact this
              have HCy : Hid (∀ p u, wr.cell? p = some u → W.cell? p = some u) := fun p u hc => HM.out.carry XW.out hc
              have G8 : Hid (IsGr W gp rp S n q A vp rows) := HG.out.carry HCy.out
              have B8 : Hid (Below w.heap.size w W) := HB.out.trans (XW.out.below HB.out.size (fun z hz => by have := HMB.out; omega))
              have P8 : Hid (FiveB W w.heap.size n B q E F) := HM.out.five XW.out HP.out
              have O8 : Hid (OwnZ 0 W (.slice (some ⟨lb, 0, none⟩) q k7) q l) := HM.out.own XW.out HO.out
              clear XW m8 HM HG HB HP HO HML HME HF0 HFn hck
              cases k with
              | zero =>
                clear HPre HCy
                go_wp2
                go_roundw
                case rel => exact ⟨1, by omega, by go_num, M8, O8, G8, B8, P8⟩
                case measure => simp [intOf]; omega
              | succ p =>
                obtain ⟨y, hcy0, hyx⟩ := HPre.out p rfl
                have hcy := HCy.out _ _ hcy0
                have hsub : ((p : Int) + 1) - 1 = (p : Int) := by omega
                clear hcy0 HPre HCy
                go_wp2
                go_roundw
                case rel => exact ⟨p + 1 + 1, by omega, by go_num, M8, O8, G8, B8, P8⟩
                case measure => simp [intOf]; omega
          · obtain rfl : k = q := by omega
            have M8 : Hid (PrI wr mb (16 * (i + 1)) (memF S A k (i + 1) [])) := by
              have := HM.out
              rw [List.take_of_length_le (by rw [HLq.out]; omega), HTn.out] at this
              exact this.mono (by omega)
            clear HM HO
            obtain ⟨c0, c1, c2, c3, c4⟩ := HP.out.five
            go_wp2
            clear c0 c1 c2 c3 c4
            go_roundw
            case rel => exact ⟨i + 1, by omega, by go_num, M8, HG, HB, HP⟩
            case measure => simp [intOf]; omega
      · obtain rfl : i = n := by omega
        go_wp2_with fail
        refine (oaux_any gp rp S i q A vp rows _ HG.out).mono ?_
        rintro e w9 ⟨rfl, rfl⟩
        have HMi : Hid (∀ W, PrI W mb (16 * i) (memF S A q i []) → ∀ (a b : Nat), a < i → b < A → (b : Int) ∈ ofD S A q a → (Instr.lookup 57 (.map (some mb)) (.agg #[.int .i64 (a : Int), .int .i64 (b : Int)]) false).run Try.prog W = .ok (.int .i64 1) W) := by
          intro W hW a b ha hb hm
          have := hW.look (i := (a : Int)) (j := (b : Int)) (wf_nat (by omega)) (wf_nat (by omega))
          rw [memF_in ha hm] at this
          exact this
        generalize memF S A q i [] = f at *
        go_wp2
        go_loopw [79, 12] (fun jv cv wr => ∃ j c : Nat, j ≤ A ∧ jv = .int .i64 j ∧ cv = .int .i64 c ∧ c ≤ j * 60 ∧ Hid (c = totalTo rows j) ∧ Hid (PrI wr mb (16 * i) f) ∧ Hid (IsGr wr gp rp S i q A vp rows) ∧ Hid (Below w.heap.size w wr) ∧ Hid (FiveB wr w.heap.size i B q E F)) (fun jv _ _ => A - (intOf jv).toNat)
        case atStart => exact ⟨0, 0, by omega, rfl, rfl, by omega, by unfold Hid; rw [totalTo_zero], HM, HG, HB, HP⟩
        case round =>
          clear HM HG HB HP
          obtain ⟨j, c, hjA, rfl, rfl, hc60, HPj, HM, HG, HB, HP⟩ := hrel
          by_cases hjl : j < A
          · have hjr : j < rows.length := by rw [HRL.out]; exact hjl
            obtain ⟨r, hr⟩ : ∃ r, rows[j]? = some r := ⟨_, List.getElem?_eq_getElem hjr⟩
            have hro := HRow.out j r hr
            obtain ⟨rn, hrn⟩ : ∃ rn, r.length = rn := ⟨_, rfl⟩
            have hrn60 : rn ≤ 60 := by have := hro.2; omega
            have HPn : Hid (c + rn = totalTo rows (j + 1)) := by
              have := totalTo_next hr
              have e := HPj.out
              unfold Hid
              omega
            have CH : Hid (Calls Try.prog 32 #[.pointer (some ⟨gp, 0, none⟩), .int .i64 j] wr fun e w' => ∃ a k, e = .returned (.slice a rn k) ∧ OwnZ wr.heap.size w' (.slice a rn k) rn r ∧ Below wr.heap.size wr w') := ohas_yes gp rp S i q A j rn vp rows r wr HG.out hA hr hrn (by omega)
            have HRo : Hid (RowOk S A q i j r) := hro.1
            have HRN : Hid (r.length = rn) := hrn
            clear hjr hr hro hrn
            go_wp2_with fail
            refine CH.out.mono ?_
            rintro e w10 ⟨a10, k10, rfl, ho10, hb10⟩
            have O10 : Hid (OwnZ 0 w10 (.slice a10 rn k10) rn r) := ho10.mono (Nat.zero_le _)
            have M10 : Hid (PrI w10 mb (16 * i) f) := HM.out.below hb10
            have G10 : Hid (IsGr w10 gp rp S i q A vp rows) := HG.out.below hb10
            have B10 : Hid (Below w.heap.size w w10) := below_on HB.out hb10
            have P10 : Hid (FiveB w10 w.heap.size i B q E F) := HP.out.below hb10
            obtain ⟨ax, kx, ex, hxc, hxm, -⟩ := owned_slice ho10
            injection ex with e1 _ e3
            subst e1; subst e3
            unfold maxLen at hxm
            clear ho10 hb10 HM HG HB HP CH
            go_wp2
            go_loopw [86, 12] (fun yv cv wr => ∃ y cc : Nat, y ≤ rn ∧ yv = .int .i64 y ∧ cv = .int .i64 cc ∧ cc ≤ j * 60 + y ∧ Hid (cc = c + y) ∧ Hid (OwnZ 0 wr (.slice a10 rn k10) rn r) ∧ Hid (PrI wr mb (16 * i) f) ∧ Hid (IsGr wr gp rp S i q A vp rows) ∧ Hid (Below w.heap.size w wr) ∧ Hid (FiveB wr w.heap.size i B q E F)) (fun yv _ _ => rn - (intOf yv).toNat)
            case atStart => exact ⟨0, c, by omega, rfl, rfl, by omega, rfl, O10, M10, G10, B10, P10⟩
            case round =>
              clear O10 M10 G10 B10 P10
              obtain ⟨y, cc, hy, rfl, rfl, hcc, HCC, HO, HM, HG, HB, HP⟩ := hrel
              by_cases hyr : y < rn
              · have hyl : y < r.length := by rw [HRN.out]; exact hyr
                have hlt := HRo.out.lt r[y] (List.getElem_mem hyl)
                obtain ⟨a, ha⟩ : ∃ a : Nat, r[y] = (a : Int) := ⟨r[y].toNat, by omega⟩
                have hmem := (HRo.out.mem a).1 (by rw [← ha]; exact List.getElem_mem hyl)
                obtain ⟨qo, co, eo, -, -, -⟩ := owned_shape HO.out (by omega)
                injection eo with e1 _ e3
                subst e1; subst e3
                have hcy := HO.out.at (List.getElem?_eq_getElem hyl)
                rw [ha] at hcy
                have hlk := HMi.out wr HM.out a j hmem.1 hjl hmem.2
                have HC2 : Hid (cc + 1 = c + (y + 1)) := by have := HCC.out; unfold Hid; omega
                clear hyl hlt ha hmem HCC
                go_wp2
                go_roundw
                case rel => exact ⟨y + 1, cc + 1, by omega, by go_num, by go_num, by omega, HC2, HO, HM, HG, HB, HP⟩
                case measure => simp [intOf]; omega
              · obtain rfl : y = rn := by omega
                have HC2 : Hid (cc = totalTo rows (j + 1)) := by unfold Hid; rw [HCC.out, HPn.out]
                clear HO HCC HPn
                go_wp2
                go_roundw
                case rel => exact ⟨j + 1, cc, by omega, by go_num, rfl, by omega, HC2, HM, HG, HB, HP⟩
                case measure => simp [intOf]; omega
          · obtain rfl : j = A := by omega
            obtain ⟨nq, hnq⟩ : ∃ nq, i * q = nq := ⟨_, rfl⟩
            have hnq2 : (i : Int) * (q : Int) = (nq : Int) := by rw [← hnq]; simp
            have hnq3 : nq ≤ 480 := by
              have h60 : i ≤ 60 := by omega
              rw [← hnq]
              exact Nat.mul_le_mul h60 hq8
            have HPE : Hid (c = nq) := by
              unfold Hid
              rw [HPj.out, totalTo_all (by rw [HRL.out]; omega), HTot.out, hnq]
            obtain rfl := HPE.out
            clear hnq HPE HPj
            obtain ⟨c0, c1, c2, c3, c4⟩ := HP.out.five
            go_wp2
            go_ret
            exact ⟨rfl, HB.out⟩
  · have MP : Hid (∀ W, Calls Try.prog 24 #[.agg #[.int .i64 N, .int .i64 B, .int .i64 Q, .int .i64 E, .int .i64 F]] W fun e w' => e = .returned (.bool false) ∧ Below W.heap.size W w') := fun W => rmay_no N B Q E F W hp
    clear hp
    go_wp2_with fail
    refine (MP.out _).mono ?_
    rintro e w4 ⟨rfl, hb4⟩
    have B4 : Hid (Below w.heap.size w w4) := below_on B3.out hb4
    clear hb4
    go_wp2
    go_ret
    exact ⟨rfl, B4.out⟩

theorem outerEach_law (N B Q E F : Int) (S : Int) (w : World) (h : Ok .i64 N ∧ Ok .i64 B ∧ Ok .i64 Q ∧ Ok .i64 E ∧ Ok .i64 F) (hS : (Lit.int .u64 S).wf = true) :
    Calls Try.prog 7 #[.agg #[.int .i64 N, .int .i64 B, .int .i64 Q, .int .i64 E, .int .i64 F], .int .u64 S] w fun e w' => e = .returned (.bool true) ∧ Below w.heap.size w w' := by
  simp [Lit.wf, IntKind.min, IntKind.max, IntKind.bits, IntKind.signed] at hS
  obtain ⟨s, rfl⟩ : ∃ s : Nat, S = s := ⟨S.toNat, by omega⟩
  exact outerEach_walk N B Q E F s w (by omega)

end Go.Proofs.Ythlladpappldbaa
