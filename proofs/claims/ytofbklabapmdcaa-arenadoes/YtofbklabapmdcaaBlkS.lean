/-
  One block put upon another one; the walks of the block statements' first look, and of 'big'.
-/
import Derived.Test.YtofbklabapmdcaaBlkR
namespace Go.Proofs.Ytofbklabapmdcaa
open Go.RowKit
set_option linter.unusedVariables false

/-- A row of one. -/
theorem Sl.one {w : World} {p : Nat} {v : Value} (hc : w.cell? ⟨p, 0, none⟩ = some v) : Sl 1 w (.slice (some ⟨p, 0, none⟩) 1 1) [v].length [v] := by
  refine ⟨rfl, _, _, rfl, Nat.le_refl _, by simp [maxLen], fun h => by simp at h, .inr ⟨_, _, rfl, ?_⟩⟩
  intro j u hj
  have : j = 0 := by have := (List.getElem?_eq_some_iff.1 hj).1; simp at this; omega
  subst this
  simp at hj
  subst hj
  exact hc

theorem off_mem1 {q : Nat} {v : Value} (h : Off q v) : ∀ u ∈ [v], Off q u := by
  intro u hu
  simp at hu
  subst hu
  exact h

theorem fit_one {n : Nat} {b : List UInt8} (h : b.length = n) : fitB n [b] = true := by simp [fitB, h]
theorem fit_one_no {n : Nat} {b : List UInt8} (h : b.length ≠ n) : fitB n [b] = false := by simp [fitB, h]

/-- One block, as long, that lies in a row of one. -/
theorem xor_one (q cap p : Nat) (pre post : List Value) (l b : List UInt8) (vb : Value) (w : World) (hB : Blk w q pre l post) (hc : l.length ≤ cap) (hm : cap ≤ maxLen)
    (hp : w.cell? ⟨p, 0, none⟩ = some vb) (hb : Bs w vb b) (hpq : p ≠ q) (ho : Off q vb) (hlen : b.length = l.length) (n off : Nat) (hn : n = l.length) (hoff : off = pre.length) :
    Calls Try.prog 26 #[.slice (some ⟨q, off, none⟩) n cap, .slice (some ⟨p, 0, none⟩) 1 1] w fun e w' => e = .returned (.bool true) ∧ Blk w' q pre (xorL l b) post ∧ w.grownBy w' (some q) ∧ w'.heap.size = w.heap.size := by
  subst hn; subst hoff
  exact xor_yes q cap pre post l _ [vb] [b] w hB hc hm (Sl.one hp) (parts_one hb) (off_at hpq) (off_mem1 ho) (fit_one hlen)

/-- One block, as long, whose row was just laid. -/
theorem xor_top (q cap : Nat) (pre post : List Value) (l b : List UInt8) (vb : Value) (w : World) (hB : Blk w q pre l post) (hc : l.length ≤ cap) (hm : cap ≤ maxLen)
    (hb : Bs w vb b) (ho : Off q vb) (hlen : b.length = l.length) (n off r : Nat) (hn : n = l.length) (hoff : off = pre.length) (hr : r = w.heap.size) :
    Calls Try.prog 26 #[.slice (some ⟨q, off, none⟩) n cap, .slice (some ⟨r, 0, none⟩) 1 1] (w.alloc (.cells #[vb] 28)) fun e w' => e = .returned (.bool true) ∧ Blk w' q pre (xorL l b) post ∧ w.grownBy w' (some q) ∧ w'.heap.size = w.heap.size + 1 := by
  subst hr
  have hlt := hB.lt
  refine (xor_one q cap w.heap.size pre post l b vb _ (hB.below (below_alloc _ _)) hc hm (by rw [World.cell?_alloc_new]; rfl) (hb.below (below_alloc _ _)) (by omega) ho hlen n off hn hoff).mono ?_
  rintro e w' ⟨rfl, h1, h2, h3⟩
  exact ⟨rfl, h1, (World.grownBy_alloc _ _ _).trans h2, by rw [h3]; simp⟩

/-- Xor of one that isn't as long, whose row was just laid. -/
theorem xor_top_no (a0 : Option Addr) (n cap : Nat) (b : List UInt8) (vb : Value) (w : World) (hb : Bs w vb b) (hlen : b.length ≠ n) (r : Nat) (hr : r = w.heap.size) :
    Calls Try.prog 26 #[.slice a0 n cap, .slice (some ⟨r, 0, none⟩) 1 1] (w.alloc (.cells #[vb] 28)) fun e w' => e = .returned (.bool false) ∧ Below w.heap.size w w' := by
  subst hr
  refine (xor_no a0 n cap _ [vb] [b] _ (Sl.one (by rw [World.cell?_alloc_new]; rfl)) (parts_one (hb.below (below_alloc _ _))) (fit_one_no hlen)).mono ?_
  rintro e w' ⟨rfl, rfl⟩
  exact ⟨rfl, below_alloc _ _⟩

theorem conv_bytes {W : World} {v : Value} {l : List UInt8} (h : Bs W v l) : (convert 28 9 v).run Try.prog W = .ok (.string (str l)) W := by
  obtain ⟨hl, ao, cap, rfl, hnc, hcm, hn0, hc⟩ := h
  rw [run_convert_bytes_string W 28 9 5 ao l.length cap Try.underlying28 Try.underlying5 Try.underlying9]
  cases ao with
  | none =>
    have : l = [] := List.eq_nil_of_length_eq_zero (by have := hn0 rfl; omega)
    subst this
    simp [Conv.bytesToString, Sem.run_pure, str]
    rfl
  | some a =>
    have hld : (loadCells a l.length).run Try.prog W = .ok ((l.map fun b => (b.toNat : Int)).map (Value.int .u8)).toArray W := by
      have e : (l.map fun b => (b.toNat : Int)).map (Value.int .u8) = l.map bv := by rw [List.map_map]; rfl
      rw [e]
      have h1 := run_loadCells_list (P := Try.prog) W a (l.map bv) ?_
      · rw [List.length_map] at h1
        exact h1
      · intro j u hj
        rcases hc with h0 | ⟨b, off, hao, hc⟩
        · have := (List.getElem?_eq_some_iff.1 hj).1
          simp at this
          omega
        · obtain rfl := Option.some.inj hao
          rw [Addr.add_lit]
          exact hc j u hj
    rw [run_bytesToString W a l.length cap _ hld, foldl_push]
    simp [str]

end Go.Proofs.Ytofbklabapmdcaa
