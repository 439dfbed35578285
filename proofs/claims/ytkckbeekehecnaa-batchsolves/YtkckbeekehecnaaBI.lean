/-
  batch: what was found is one thing.
-/
import Derived.Test.YtkckbeekehecnaaBH
import Derived.Test.YtkckbeekehecnaaZQ
import Derived.Test.YtkckbeekehecnaaZSmp
namespace Go.Proofs.Ytkckbeekehecnaa
open Go.RowKit
set_option linter.unusedVariables false
set_option maxRecDepth 100000

theorem Slv.unique {n : Nat} {E : List EqP} {ss : List (EqP × Int)} {V V' : Int → List UInt8} (hn : ∀ p ∈ E, p.2.length = n) (h : Slv E ss V) (hV' : ∀ b, (V' b).length = n) (hA : ∀ p ∈ E, (∀ b ∈ p.1, Fol (E.map Prod.fst) b) → zeroB (xorAll p.2 (p.1.map V')) = true) : ∀ x ∈ ss.map Prod.snd, V x = V' x := by
  have hcl : ∀ (j : Nat) (p : EqP) (b : Int), ss[j]? = some (p, b) → ∀ x ∈ p.1, Fol (E.map Prod.fst) x := by
    intro j p b hj x hx
    by_cases hxb : x = b
    · rw [hxb]; exact h.fol j p b hj
    · exact h.fol' (take_in (h.pre hj hx hxb))
  have hVV : ∀ (j : Nat) (p : EqP) (b : Int), ss[j]? = some (p, b) → V b = V' b := by
    intro j
    induction j using Nat.strongRecOn with
    | _ j ih =>
      intro p b hj
      have h1 := hA p (h.mem j p b hj) (hcl j p b hj)
      rw [lead_split (h.left j p b hj) V'] at h1
      have h2 : (xorAll p.2 ((knZ ((ss.take j).map Prod.snd) p.1).map V')).length = n := by
        rw [xorAll_length, hn p (h.mem j p b hj)]
        intro x hx
        obtain ⟨y, hy, rfl⟩ := List.mem_map.1 hx
        rw [hV', hn p (h.mem j p b hj)]
      rw [zeroB_xorL (by rw [hV', h2])] at h1
      rw [← h1, h.val j p b hj]
      congr 1
      refine List.map_congr_left fun x hx => ?_
      obtain ⟨⟨p', b'⟩, h3, rfl⟩ := List.mem_map.1 (knZ_mem.1 hx).2
      obtain ⟨i, h4⟩ := List.mem_iff_getElem?.1 h3
      rw [List.getElem?_take] at h4
      split at h4
      · rename_i hlt
        exact ih i hlt p' b' h4
      · cases h4
  intro x hx
  obtain ⟨⟨p', b'⟩, h1, rfl⟩ := List.mem_map.1 hx
  obtain ⟨j, hj⟩ := List.mem_iff_getElem?.1 h1
  exact hVV j p' b' hj

section
variable {n size : Nat} {es : List Qe} {K : List Int} {V : Int → List UInt8}
theorem useQ_nodup : ∀ l ∈ (useQ n size es).map Qe.of, l.Nodup := fun l hl => by
  obtain ⟨e, he, rfl⟩ := List.mem_map.1 hl
  exact (useQ_mem.1 he).2.1.nodup
theorem Found.mem (h : Found n size es K V) (x : Int) : x ∈ K ↔ Fol ((useQ n size es).map Qe.of) x := by
  obtain ⟨ss, rfl, h1, h2, -⟩ := h.ex
  exact deriv_iff useQ_nodup h1 h2 x
theorem Found.rg (h : Found n size es K V) : ∀ x ∈ K, 0 ≤ x ∧ x < (n : Int) := fun x hx => by
  obtain ⟨l, hl, hxl⟩ := ((h.mem x).1 hx).ex
  obtain ⟨e, he, rfl⟩ := List.mem_map.1 hl
  exact (useQ_mem.1 he).2.1.2 x hxl
theorem pair_len : ∀ p ∈ (useQ n size es).map pairQ, p.2.length = size := fun p hp => by
  obtain ⟨e, he, rfl⟩ := List.mem_map.1 hp
  exact (useQ_mem.1 he).2.2
theorem Found.len (h : Found n size es K V) : ∀ x ∈ K, (V x).length = size := fun x hx => by
  obtain ⟨ss, rfl, -, -, h3⟩ := h.ex
  exact h3.len' pair_len (by rw [pairs_snd]; exact hx)
theorem Found.fail (h : Found n size es K V) : (∃ e ∈ useQ n size es, FailP n K V e) ↔ ¬ AgQ size ((useQ n size es).map pairQ) := by
  have hlen := h.len
  have hrg := h.rg
  obtain ⟨ss, hK, h1, h2, h3⟩ := h.ex
  rw [← agree_all (fun q hq => (useQ_mem.1 hq).2.1.nodup) (fun q hq => (useQ_mem.1 hq).2.2) h1 h2 h3, ← hK]
  have hx : ∀ e ∈ useQ n size es, leftZ K e.of = [] → (HoldsP e.of e.va (xsV n K V) ↔ zeroB (xorAll e.va (e.of.map V)) = true) := fun e he hl => by
    have hk : ∀ z ∈ e.of, z ∈ K := fun z hz => by
      by_cases hzk : z ∈ K
      · exact hzk
      · have : z ∈ leftZ K e.of := leftZ_mem.2 ⟨hz, hzk⟩
        rw [hl] at this
        cases this
    exact holds_xsV (useQ_mem.1 he).2.1.2 hk hlen (useQ_mem.1 he).2.2
  constructor
  · rintro ⟨e, he, h4, h5⟩ hA
    exact h5 ((hx e he h4).2 (hA e he h4))
  · intro hA
    refine Classical.byContradiction fun hN => hA fun e he hl => ?_
    refine Classical.byContradiction fun hz => hN ⟨e, he, hl, fun hh => hz ((hx e he hl).1 hh)⟩
/-- Values by which all closed equations hold are those that were found. -/
theorem Found.unique (h : Found n size es K V) {V' : Int → List UInt8} (hV' : ∀ b, (V' b).length = size) (hA : ∀ p ∈ (useQ n size es).map pairQ, (∀ b ∈ p.1, Fol ((useQ n size es).map Qe.of) b) → zeroB (xorAll p.2 (p.1.map V')) = true) : ∀ x ∈ K, V x = V' x := by
  obtain ⟨ss, rfl, -, -, h3⟩ := h.ex
  intro x hx
  refine Slv.unique pair_len h3 hV' (fun p hp hc => hA p hp (by rw [pairs_fst] at hc; exact hc)) x ?_
  rw [pairs_snd]
  exact hx
end
theorem AgQ.spec {n : Nat} {fit : List Qe} (h : AgQ n (fit.map pairQ)) : ∃ V : Int → List UInt8, (∀ b, (V b).length = n) ∧ ∀ p ∈ fit.map pairQ, (∀ b ∈ p.1, Fol (fit.map Qe.of) b) → zeroB (xorAll p.2 (p.1.map V)) = true := by
  obtain ⟨V, h1, h2⟩ := h
  exact ⟨V, h1, fun p hp hc => h2 p hp (by rw [pairs_fst]; exact hc)⟩

/-- Two rising rows of the same numbers are one. -/
theorem rise_ext : ∀ {a b : List Int}, a.Pairwise (· < ·) → b.Pairwise (· < ·) → (∀ x, x ∈ a ↔ x ∈ b) → a = b
  | [], [], _, _, _ => rfl
  | [], y :: b, _, _, h => absurd ((h y).2 List.mem_cons_self) (by simp)
  | x :: a, [], _, _, h => absurd ((h x).1 List.mem_cons_self) (by simp)
  | x :: a, y :: b, ha, hb, h => by
    obtain ⟨ha1, ha2⟩ := List.pairwise_cons.1 ha
    obtain ⟨hb1, hb2⟩ := List.pairwise_cons.1 hb
    have e : x = y := by
      rcases List.mem_cons.1 ((h x).1 List.mem_cons_self) with h1 | h1
      · exact h1
      · rcases List.mem_cons.1 ((h y).2 List.mem_cons_self) with h2 | h2
        · exact h2.symm
        · have := hb1 x h1
          have := ha1 y h2
          omega
    subst e
    congr 1
    refine rise_ext ha2 hb2 fun z => ?_
    constructor
    · intro hz
      rcases List.mem_cons.1 ((h z).1 (List.mem_cons_of_mem _ hz)) with h1 | h1
      · have := ha1 z hz; omega
      · exact h1
    · intro hz
      rcases List.mem_cons.1 ((h z).2 (List.mem_cons_of_mem _ hz)) with h1 | h1
      · have := hb1 z hz; omega
      · exact h1
theorem kRise_ext {n : Nat} {K K' : List Int} (hr : ∀ x ∈ K, 0 ≤ x ∧ x < (n : Int)) (hr' : ∀ x ∈ K', 0 ≤ x ∧ x < (n : Int)) (h : ∀ x, x ∈ K ↔ x ∈ K') : kRise K n = kRise K' n :=
  rise_ext (kRise_rise K n) (kRise_rise K' n) fun x => by rw [kRise_mem hr, kRise_mem hr', h x]

theorem two17 (w : World) : let W := (((((w.alloc (.cells #[.int .i64 0, .int .i64 1] 3)).alloc (.cells #[.int .u8 3] 5)).alloc (.cells #[.int .i64 0] 3)).alloc (.cells #[.int .u8 1] 5)).alloc (.cells #[.slice (some ⟨w.heap.size, 0, none⟩) 2 2, .slice (some ⟨w.heap.size + 1, 0, none⟩) 1 1, .slice (some ⟨w.heap.size + 1 + 1, 0, none⟩) 1 1, .slice (some ⟨w.heap.size + 1 + 1 + 1, 0, none⟩) 1 1] 43)); Qs W (.slice (some ⟨w.heap.size + 1 + 1 + 1 + 1, 0, none⟩) 2 2) [⟨.slice (some ⟨w.heap.size, 0, none⟩) 2 2, .slice (some ⟨w.heap.size + 1, 0, none⟩) 1 1, [0, 1], [3]⟩, ⟨.slice (some ⟨w.heap.size + 1 + 1, 0, none⟩) 1 1, .slice (some ⟨w.heap.size + 1 + 1 + 1, 0, none⟩) 1 1, [0], [1]⟩] ∧ Below w.heap.size w W := by
  have s1 : (w.alloc (.cells #[.int .i64 0, .int .i64 1] 3)).heap.size = w.heap.size + 1 := by simp
  have z1 := zs_lit2 w 0 1 3 _ rfl
  have x1 := below_alloc w (.cells #[.int .i64 0, .int .i64 1] 3)
  generalize w.alloc (.cells #[.int .i64 0, .int .i64 1] 3) = w1 at *
  have s2 : (w1.alloc (.cells #[.int .u8 3] 5)).heap.size = w.heap.size + 1 + 1 := by simp [s1]
  have z2 := bs_lit1 w1 3 5 _ _ (show Value.int .u8 3 = bv 3 from rfl) rfl
  rw [s1] at z2
  have x2 := below_alloc w1 (.cells #[.int .u8 3] 5)
  generalize w1.alloc (.cells #[.int .u8 3] 5) = w2 at *
  have s3 : (w2.alloc (.cells #[.int .i64 0] 3)).heap.size = w.heap.size + 1 + 1 + 1 := by simp [s2]
  have z3 := zs_lit1 w2 0 3 _ rfl
  rw [s2] at z3
  have x3 := below_alloc w2 (.cells #[.int .i64 0] 3)
  generalize w2.alloc (.cells #[.int .i64 0] 3) = w3 at *
  have s4 : (w3.alloc (.cells #[.int .u8 1] 5)).heap.size = w.heap.size + 1 + 1 + 1 + 1 := by simp [s3]
  have z4 := bs_lit1 w3 1 5 _ _ (show Value.int .u8 1 = bv 1 from rfl) rfl
  rw [s3] at z4
  have x4 := below_alloc w3 (.cells #[.int .u8 1] 5)
  generalize w3.alloc (.cells #[.int .u8 1] 5) = w4 at *
  refine ⟨?_, on_below x1 (on_below x2 (on_below x3 (on_below x4 (below_alloc _ _))))⟩
  exact Qs.lit2 w4 ⟨_, _, [0, 1], [3]⟩ ⟨_, _, [0], [1]⟩ _ s4.symm ⟨z1.below (on_below x2 (on_below x3 x4)), z2.below (on_below x3 x4)⟩ ⟨z3.below x4, z4⟩

/-- The law's example: what is found. -/
theorem found17 {es : List Qe} (he : es.map pairQ = [([0, 1], [3]), ([0], [1])]) {K : List Int} {V : Int → List UInt8} (h : Found 3 1 es K V) : kRise K 3 = [0, 1] ∧ V 1 = [2] ∧ (1 : Int) ∈ K ∧ (2 : Int) ∉ K ∧ ¬ ∃ e ∈ useQ 3 1 es, FailP 3 K V e := by
  have hu : useQ 3 1 es = es := by
    unfold useQ
    refine List.filter_eq_self.2 fun e hm => ?_
    have h1 : pairQ e ∈ es.map pairQ := List.mem_map.2 ⟨e, hm, rfl⟩
    rw [he] at h1
    rcases List.mem_cons.1 h1 with h1 | h1
    · have e1 : e.of = [0, 1] := congrArg Prod.fst h1
      have e2 : e.va = [3] := congrArg Prod.snd h1
      rw [e1, e2]
      decide
    · have h1 := List.mem_singleton.1 h1
      have e1 : e.of = [0] := congrArg Prod.fst h1
      have e2 : e.va = [1] := congrArg Prod.snd h1
      rw [e1, e2]
      decide
  have hf : es.map Qe.of = [[0, 1], [0]] := by
    have h1 : es.map Qe.of = (es.map pairQ).map Prod.fst := by rw [List.map_map]; rfl
    rw [h1, he]
    rfl
  have hm := h.mem
  rw [hu, hf] at hm
  have f0 : Fol [[0, 1], [0]] 0 := Fol.step [0] 0 (by simp) (by simp) (fun y hy hne => absurd (List.mem_singleton.1 hy) hne)
  have f1 : Fol [[0, 1], [0]] 1 := Fol.step [0, 1] 1 (by simp) (by simp) (fun y hy hne => by
    rcases List.mem_cons.1 hy with rfl | hy
    · exact f0
    · exact absurd (List.mem_singleton.1 hy) hne)
  have k0 : (0 : Int) ∈ K := (hm 0).2 f0
  have k1 : (1 : Int) ∈ K := (hm 1).2 f1
  have k2 : (2 : Int) ∉ K := fun hk => by
    obtain ⟨l, hl, hx⟩ := ((hm 2).1 hk).ex
    simp at hl
    rcases hl with rfl | rfl <;> simp at hx
  obtain ⟨V', hV'⟩ : ∃ V' : Int → List UInt8, V' = fun x => if x = 0 then [1] else if x = 1 then [2] else [0] := ⟨_, rfl⟩
  have v0 : V' 0 = [1] := by rw [hV']; rfl
  have v1 : V' 1 = [2] := by rw [hV']; rfl
  have vl : ∀ b, (V' b).length = 1 := fun b => by
    rw [hV']
    show (if b = 0 then [1] else if b = 1 then [2] else [0] : List UInt8).length = 1
    by_cases h0 : b = 0
    · rw [if_pos h0]; rfl
    · by_cases h1 : b = 1
      · rw [if_neg h0, if_pos h1]; rfl
      · rw [if_neg h0, if_neg h1]; rfl
  have hA : ∀ p ∈ (useQ 3 1 es).map pairQ, zeroB (xorAll p.2 (p.1.map V')) = true := fun p hp => by
    rw [hu, he] at hp
    rcases List.mem_cons.1 hp with rfl | hp
    · show zeroB (xorAll [3] [V' 0, V' 1]) = true
      rw [v0, v1]
      decide
    · rw [List.mem_singleton.1 hp]
      show zeroB (xorAll [1] [V' 0]) = true
      rw [v0]
      decide
  refine ⟨?_, ?_, k1, k2, ?_⟩
  · rw [show (3 : Nat) = 2 + 1 from rfl, kRise_next, show (2 : Nat) = 1 + 1 from rfl, kRise_next, show (1 : Nat) = 0 + 1 from rfl, kRise_next]
    simp [kRise, k0, k1, k2]
  · rw [h.unique vl (fun p hp _ => hA p hp) 1 k1, v1]
  · rw [h.fail]
    exact fun hn => hn ⟨V', vl, fun p hp _ => hA p hp⟩

end Go.Proofs.Ytkckbeekehecnaa

