/-
  Plain mathematics of frames that differ by their ID alone.
-/
import Derived.Test.YtijonjiioeahhaaFrL
namespace Go.Proofs.Ytijonjiioeahhaa
open Go.RowKit
set_option linter.unusedVariables false

/-- A frame, cut at its ID. -/
theorem frame_split (S N B Q E F L I : Nat) (p : List UInt8) : ∃ a z : List UInt8, a.length = 30 ∧ z.length = 4 ∧ a = be 16716 2 ++ be 1 1 ++ be S 8 ++ be N 4 ++ be B 2 ++ be Q 1 ++ be E 2 ++ be F 2 ++ be L 8 ∧ frameB S N B Q E F L I p = a ++ (be I 8 ++ (p ++ z)) := by
  refine ⟨be 16716 2 ++ be 1 1 ++ be S 8 ++ be N 4 ++ be B 2 ++ be Q 1 ++ be E 2 ++ be F 2 ++ be L 8, be4 (MathA.sum (headB S N B Q E F L I ++ p)), by simp [be_length], rfl, rfl, ?_⟩
  unfold frameB sealB
  rw [List.append_assoc]
  unfold headB
  simp only [List.append_assoc]

theorem frame_mid (S N B Q E F L I : Nat) (p : List UInt8) : ((frameB S N B Q E F L I p).drop 30).take 8 = be I 8 := by
  obtain ⟨a, z, ha, hz, -, e⟩ := frame_split S N B Q E F L I p
  rw [e, List.drop_left' ha, List.take_left' (be_length I 8)]

theorem at_tail (a x p z : List UInt8) (i : Nat) (ha : a.length = 30) (hx : x.length = 8) (h1 : 38 ≤ i) (h2 : i < 38 + p.length) : (a ++ (x ++ (p ++ z)))[i]? = p[i - 38]? := by
  rw [List.getElem?_append_right (by omega), ha, List.getElem?_append_right (by omega), hx, List.getElem?_append_left (by omega)]
  congr 1

theorem frame_same (S N B Q E F L I J : Nat) (p : List UInt8) (i : Nat) (h : i < 30 ∨ (38 ≤ i ∧ i < 38 + p.length)) : (frameB S N B Q E F L I p)[i]? = (frameB S N B Q E F L J p)[i]? := by
  obtain ⟨a, z, ha, hz, ea, e⟩ := frame_split S N B Q E F L I p
  obtain ⟨a', z', ha', hz', ea', e'⟩ := frame_split S N B Q E F L J p
  rw [e, e', ea', ← ea]
  rcases h with h | ⟨h1, h2⟩
  · rw [List.getElem?_append_left (by omega), List.getElem?_append_left (by omega)]
  · rw [at_tail a (be I 8) p z i ha (be_length _ _) h1 h2, at_tail a (be J 8) p z' i ha (be_length _ _) h1 h2]

theorem be_inj {I J : Nat} (hI : I < 2 ^ 64) (hJ : J < 2 ^ 64) (h : be I 8 = be J 8) : I = J := by
  have h1 := num64_be I 8 (by omega) (by omega)
  have h2 := num64_be J 8 (by omega) (by omega)
  rw [h] at h1
  exact h1.symm.trans h2

theorem frame_ne (S N B Q E F L I J : Nat) (p : List UInt8) (hI : I < 2 ^ 64) (hJ : J < 2 ^ 64) (h : I ≠ J) : frameB S N B Q E F L I p ≠ frameB S N B Q E F L J p := by
  intro e
  have e2 := congrArg (fun l => (l.drop 30).take 8) e
  simp only [frame_mid] at e2
  exact h (be_inj hI hJ e2)

theorem nine_id {W : World} {b : Nat} {S N B Q E F L I : Int} {v : Value} (h : Nine W b S N B Q E F L I v) (J : Int) : Nine (W.setCell ⟨b, 7, none⟩ (.int .u64 J)) b S N B Q E F L J v := by
  refine ⟨h.1.set7 J, ?_⟩
  rw [World.cell?_setCell_other _ _ _ _ (by simp)]
  exact h.2

end Go.Proofs.Ytijonjiioeahhaa
