/-
  Texts that lie together: FrA FrM FrB FrC FrD FrE FrF FrG FrH FrI FrJ FrK FrL.
-/
import Derived.Test.YtkckbeekehecnaaGreatZPar
import Derived.Test.YtkckbeekehecnaaGreatZCrc
import Derived.Deep.QuietTactic
import Derived.BigQuiet
import Derived.Test.YtkckbeekehecnaaGreatZWire
import Derived.Test.YtkckbeekehecnaaGreatZBase
import Derived.Deep.MidRow
import Derived.Laws.ResultCell
import Derived.Deep.RegionLaw
namespace Go.Proofs.YtkckbeekehecnaaGreat

section
/-
  The walks of package frame: New, Check; the document's May of a header.
-/
open Go.RowKit
set_option linter.unusedVariables false

/-- A header that may be. -/
def MayH (N B Q E F L : Int) : Prop := May N B Q E F ∧ 0 ≤ L ∧ L ≤ N * B

def decMayH (N B Q E F L : Int) : Decidable (MayH N B Q E F L) := @instDecidableAnd (May N B Q E F) (0 ≤ L ∧ L ≤ N * B) (decMay N B Q E F) inferInstance

def mayHE (N B Q E F L : Int) : Int := @ite Int (MayH N B Q E F L) (decMayH N B Q E F L) 0 1

theorem mayHE_no {N B Q E F L : Int} (h : ¬ MayH N B Q E F L) : mayHE N B Q E F L = 1 := if_neg h
theorem mayHE_yes {N B Q E F L : Int} (h : MayH N B Q E F L) : mayHE N B Q E F L = 0 := if_pos h

/-- A block of a header's numbers, as a box lies. -/
def Eight (W : World) (b : Nat) (S N B Q E F L I : Int) : Prop := W.cell? ⟨b, 0, none⟩ = some (.int .u64 S) ∧ W.cell? ⟨b, 1, none⟩ = some (.int .i64 N) ∧ W.cell? ⟨b, 2, none⟩ = some (.int .i64 B) ∧ W.cell? ⟨b, 3, none⟩ = some (.int .i64 Q) ∧ W.cell? ⟨b, 4, none⟩ = some (.int .i64 E) ∧ W.cell? ⟨b, 5, none⟩ = some (.int .i64 F) ∧ W.cell? ⟨b, 6, none⟩ = some (.int .i64 L) ∧ W.cell? ⟨b, 7, none⟩ = some (.int .u64 I)

theorem Eight.below {W W' : World} {b : Nat} {S N B Q E F L I : Int} (h : Eight W b S N B Q E F L I) (hb : Below W.heap.size W W') : Eight W' b S N B Q E F L I := by
  obtain ⟨h0, h1, h2, h3, h4, h5, h6, h7⟩ := h
  exact ⟨(hb.cell (cell_block_lt h0)).trans h0, (hb.cell (cell_block_lt h1)).trans h1, (hb.cell (cell_block_lt h2)).trans h2, (hb.cell (cell_block_lt h3)).trans h3, (hb.cell (cell_block_lt h4)).trans h4, (hb.cell (cell_block_lt h5)).trans h5, (hb.cell (cell_block_lt h6)).trans h6, (hb.cell (cell_block_lt h7)).trans h7⟩

theorem eight_new (w : World) (t : TypeId) (S N B Q E F L I : Int) : Eight (w.alloc (.cells #[.int .u64 S, .int .i64 N, .int .i64 B, .int .i64 Q, .int .i64 E, .int .i64 F, .int .i64 L, .int .u64 I] t)) w.heap.size S N B Q E F L I := by
  refine ⟨?_, ?_, ?_, ?_, ?_, ?_, ?_, ?_⟩ <;> simp

/-- A Codec at block c, its table at block g. -/
def IsCo (W : World) (c g : Nat) : Prop := W.cell? ⟨c, 0, none⟩ = some (.pointer (some ⟨g, 0, none⟩)) ∧ IsTab W g

theorem IsCo.below {W W' : World} {c g : Nat} (h : IsCo W c g) (hb : Below W.heap.size W W') : IsCo W' c g :=
  ⟨(hb.cell (cell_block_lt h.1)).trans h.1, h.2.below hb⟩

set_option maxRecDepth 100000 in
set_option maxHeartbeats 1000000 in
/-- NEW. -/
theorem fnew_any (w : World) : Calls Tryz.prog 19 #[] w fun e w' => ∃ c g, e = .returned (.pointer (some ⟨c, 0, none⟩)) ∧ IsCo w' c g ∧ Below w.heap.size w w' ∧ w.heap.size ≤ c ∧ w.heap.size ≤ g ∧ c < w'.heap.size := by
  go_enter Tryz.func19, Tryz.ntmps19
  go_wp2_with fail
  refine (new_c _).mono ?_
  rintro e w1 ⟨rfl, hT, hb1, hsz⟩
  have T1 : Hid (IsTab w1 w.heap.size) := hT
  have B1 : Hid (Below w.heap.size w w1) := hb1
  clear hT hb1 hsz
  go_wp2
  go_ret
  refine ⟨w1.heap.size, w.heap.size, rfl, ⟨by simp, T1.out.below (below_alloc _ _)⟩, below_mid B1.out (below_alloc _ _), B1.out.size, Nat.le_refl _, by simp⟩

end

section
/-
  Plain mathematics of frames: what is written, what is read; there and back.
-/
open Go.RowKit
set_option linter.unusedVariables false

/-- The head's bytes. -/
def headB (S N B Q E F L I : Nat) : List UInt8 := be 16716 2 ++ be 1 1 ++ be S 8 ++ be N 4 ++ be B 2 ++ be Q 1 ++ be E 2 ++ be F 2 ++ be L 8 ++ be I 8

theorem headB_length (S N B Q E F L I : Nat) : (headB S N B Q E F L I).length = 38 := by
  simp [headB, be_length]

/-- Bytes with their sum. -/
def sealB (l : List UInt8) : List UInt8 := l ++ be4 (MathA.sum l)

theorem sealB_length (l : List UInt8) : (sealB l).length = l.length + 4 := by simp [sealB, be4]

/-- A frame's bytes. -/
def frameB (S N B Q E F L I : Nat) (p : List UInt8) : List UInt8 := sealB (headB S N B Q E F L I ++ p)

theorem frameB_length (S N B Q E F L I : Nat) (p : List UInt8) : (frameB S N B Q E F L I p).length = 42 + p.length := by
  simp [frameB, sealB_length, headB_length]; omega

/-- The number that stands at a place. -/
def num (l : List UInt8) (a s : Nat) : Nat := num64 ((l.drop a).take s)

theorem num_lt (l : List UInt8) (a s : Nat) : num l a s < 18446744073709551616 := num64_lt _

theorem num_at (pre x post : List UInt8) (a s n : Nat) (ha : pre.length = a) (hx : x = be n s) (hn : n < 2 ^ (8 * s)) (h64 : n < 18446744073709551616) : num (pre ++ (x ++ post)) a s = n := by
  subst ha; subst hx
  unfold num
  rw [List.drop_left, List.take_left' (be_length n s)]
  exact num64_be n s hn h64

theorem num64_snoc (l : List UInt8) (x : UInt8) : num64 (l ++ [x]) = (num64 l * 256 + x.toNat) % 18446744073709551616 := by
  unfold num64
  rw [List.foldl_append]
  rfl

theorem num64_small (l : List UInt8) (h : l.length ≤ 8) : num64 l < 2 ^ (8 * l.length) := by
  have H : ∀ n, ∀ l : List UInt8, l.length = n → n ≤ 8 → num64 l < 2 ^ (8 * n) := by
    intro n
    induction n with
    | zero =>
      intro l hl _
      have : l = [] := List.eq_nil_of_length_eq_zero hl
      subst this
      simp [num64]
    | succ n ih =>
      intro l hl hn
      have hne : l ≠ [] := by intro e; subst e; simp at hl
      obtain ⟨l', x, rfl⟩ : ∃ l' x, l = l' ++ [x] := ⟨l.dropLast, l.getLast hne, (List.dropLast_concat_getLast hne).symm⟩
      have hl' : l'.length = n := by simp at hl; omega
      have h1 := ih l' hl' (by omega)
      have h2 := x.toNat_lt
      rw [num64_snoc]
      have e : (2 : Nat) ^ (8 * (n + 1)) = 2 ^ (8 * n) * 256 := by rw [show 8 * (n + 1) = 8 * n + 8 by omega, Nat.pow_add]
      rw [e]
      have h3 : num64 l' * 256 + x.toNat < 2 ^ (8 * n) * 256 := by omega
      exact Nat.lt_of_le_of_lt (Nat.mod_le _ _) h3
  exact H l.length l rfl h

theorem be_snoc (n s : Nat) : be n (s + 1) = be (n / 256) s ++ [UInt8.ofNat n] := by
  unfold be
  rw [List.range_succ, List.map_append]
  congr 1
  · apply List.map_congr_left
    intro i hi
    have hi' : i < s := by simpa using hi
    congr 1
    rw [show 8 * (s + 1 - 1 - i) = 8 + 8 * (s - 1 - i) by omega, Nat.pow_add, ← Nat.div_div_eq_div_mul]
  · simp

/-- Bytes are what their number is as bytes. -/
theorem be_num64 (l : List UInt8) (h : l.length ≤ 8) : be (num64 l) l.length = l := by
  have H : ∀ n, ∀ l : List UInt8, l.length = n → n ≤ 8 → be (num64 l) n = l := by
    intro n
    induction n with
    | zero =>
      intro l hl _
      have : l = [] := List.eq_nil_of_length_eq_zero hl
      subst this
      rfl
    | succ n ih =>
      intro l hl hn
      have hne : l ≠ [] := by intro e; subst e; simp at hl
      obtain ⟨l', x, rfl⟩ : ∃ l' x, l = l' ++ [x] := ⟨l.dropLast, l.getLast hne, (List.dropLast_concat_getLast hne).symm⟩
      have hl' : l'.length = n := by simp at hl; omega
      have h1 := num64_small l' (by omega)
      have h2 := x.toNat_lt
      have e : (2 : Nat) ^ (8 * l'.length) ≤ 2 ^ 56 := Nat.pow_le_pow_right (by omega) (by omega)
      have h3 : num64 l' * 256 + x.toNat < 18446744073709551616 := by omega
      rw [be_snoc, num64_snoc, Nat.mod_eq_of_lt h3]
      have h4 : (num64 l' * 256 + x.toNat) / 256 = num64 l' := by omega
      rw [h4, ih l' hl' (by omega)]
      congr 1
      have h5 : UInt8.ofNat (num64 l' * 256 + x.toNat) = x := by
        apply UInt8.toNat_inj.1
        simp
      rw [h5]
  exact H l.length l rfl h

theorem be_num (l : List UInt8) (a s : Nat) (h : a + s ≤ l.length) (hs : s ≤ 8) : be (num l a s) s = (l.drop a).take s := by
  have hl : ((l.drop a).take s).length = s := by simp; omega
  have := be_num64 ((l.drop a).take s) (by omega)
  rw [hl] at this
  exact this

theorem num_small (l : List UInt8) (a s : Nat) (hs : s ≤ 8) : num l a s < 2 ^ (8 * s) := by
  have h := num64_small ((l.drop a).take s) (by simp; omega)
  have h2 : (2 : Nat) ^ (8 * ((l.drop a).take s).length) ≤ 2 ^ (8 * s) := Nat.pow_le_pow_right (by omega) (by simp; omega)
  exact Nat.lt_of_lt_of_le h h2

/-- A number of 64 bits as an int. -/
def asInt (n : Nat) : Int := IntKind.i64.wrap (n : Int)

theorem asInt_small (n : Nat) (h : n < 9223372036854775808) : asInt n = (n : Int) := by
  unfold asInt
  rw [IntKind.wrap_i64]
  omega

theorem asInt_neg (n : Nat) (h : ¬ n < 9223372036854775808) (h2 : n < 18446744073709551616) : asInt n < 0 := by
  unfold asInt
  rw [IntKind.wrap_i64]
  omega

/-- What a head's bytes say: the error's number. -/
def headE (l : List UInt8) : Int :=
  if num l 0 2 ≠ 16716 then 5 else if num l 2 1 ≠ 1 then 6 else mayHE (num l 11 4) (num l 15 2) (num l 17 1) (num l 18 2) (num l 20 2) (asInt (num l 22 8))

/-- Why bytes are no frame: the error's number. -/
def parseE (l : List UInt8) : Int :=
  if l.length < 42 then 4 else if headE l ≠ 0 then headE l else if l.length ≠ 42 + num l 15 2 then 7 else if rightB l = false then 8 else 0

/-- There and back: the parts of a frame. -/
theorem frame_parts (S N B Q E F L I : Nat) (p : List UInt8) (hS : S < 2 ^ 64) (hN : N < 2 ^ 32) (hB : B < 2 ^ 16) (hQ : Q < 2 ^ 8) (hE : E < 2 ^ 16) (hF : F < 2 ^ 16) (hL : L < 2 ^ 64) (hI : I < 2 ^ 64) :
    let l := frameB S N B Q E F L I p
    num l 0 2 = 16716 ∧ num l 2 1 = 1 ∧ num l 3 8 = S ∧ num l 11 4 = N ∧ num l 15 2 = B ∧ num l 17 1 = Q ∧ num l 18 2 = E ∧ num l 20 2 = F ∧ num l 22 8 = L ∧ num l 30 8 = I ∧ (l.drop 38).take p.length = p := by
  have hl : ∀ n s, (be n s).length = s := be_length
  simp only [frameB, sealB, headB]
  generalize be4 (MathA.sum (be 16716 2 ++ be 1 1 ++ be S 8 ++ be N 4 ++ be B 2 ++ be Q 1 ++ be E 2 ++ be F 2 ++ be L 8 ++ be I 8 ++ p)) = z
  refine ⟨?_, ?_, ?_, ?_, ?_, ?_, ?_, ?_, ?_, ?_, ?_⟩
  · exact (congrArg (fun l => num l 0 2) (by simp only [List.append_assoc, List.nil_append])).trans (num_at [] (be 16716 2) (be 1 1 ++ (be S 8 ++ (be N 4 ++ (be B 2 ++ (be Q 1 ++ (be E 2 ++ (be F 2 ++ (be L 8 ++ (be I 8 ++ (p ++ z)))))))))) 0 2 _ rfl rfl (by decide) (by decide))
  · exact (congrArg (fun l => num l 2 1) (by simp only [List.append_assoc])).trans (num_at (be 16716 2) (be 1 1) (be S 8 ++ (be N 4 ++ (be B 2 ++ (be Q 1 ++ (be E 2 ++ (be F 2 ++ (be L 8 ++ (be I 8 ++ (p ++ z))))))))) 2 1 _ (hl _ _) rfl (by decide) (by decide))
  · exact (congrArg (fun l => num l 3 8) (by simp only [List.append_assoc])).trans (num_at (be 16716 2 ++ be 1 1) (be S 8) (be N 4 ++ (be B 2 ++ (be Q 1 ++ (be E 2 ++ (be F 2 ++ (be L 8 ++ (be I 8 ++ (p ++ z)))))))) 3 8 _ (by simp [hl]) rfl (by omega) (by omega))
  · exact (congrArg (fun l => num l 11 4) (by simp only [List.append_assoc])).trans (num_at (be 16716 2 ++ be 1 1 ++ be S 8) (be N 4) (be B 2 ++ (be Q 1 ++ (be E 2 ++ (be F 2 ++ (be L 8 ++ (be I 8 ++ (p ++ z))))))) 11 4 _ (by simp [hl]) rfl (by omega) (by omega))
  · exact (congrArg (fun l => num l 15 2) (by simp only [List.append_assoc])).trans (num_at (be 16716 2 ++ be 1 1 ++ be S 8 ++ be N 4) (be B 2) (be Q 1 ++ (be E 2 ++ (be F 2 ++ (be L 8 ++ (be I 8 ++ (p ++ z)))))) 15 2 _ (by simp [hl]) rfl (by omega) (by omega))
  · exact (congrArg (fun l => num l 17 1) (by simp only [List.append_assoc])).trans (num_at (be 16716 2 ++ be 1 1 ++ be S 8 ++ be N 4 ++ be B 2) (be Q 1) (be E 2 ++ (be F 2 ++ (be L 8 ++ (be I 8 ++ (p ++ z))))) 17 1 _ (by simp [hl]) rfl (by omega) (by omega))
  · exact (congrArg (fun l => num l 18 2) (by simp only [List.append_assoc])).trans (num_at (be 16716 2 ++ be 1 1 ++ be S 8 ++ be N 4 ++ be B 2 ++ be Q 1) (be E 2) (be F 2 ++ (be L 8 ++ (be I 8 ++ (p ++ z)))) 18 2 _ (by simp [hl]) rfl (by omega) (by omega))
  · exact (congrArg (fun l => num l 20 2) (by simp only [List.append_assoc])).trans (num_at (be 16716 2 ++ be 1 1 ++ be S 8 ++ be N 4 ++ be B 2 ++ be Q 1 ++ be E 2) (be F 2) (be L 8 ++ (be I 8 ++ (p ++ z))) 20 2 _ (by simp [hl]) rfl (by omega) (by omega))
  · exact (congrArg (fun l => num l 22 8) (by simp only [List.append_assoc])).trans (num_at (be 16716 2 ++ be 1 1 ++ be S 8 ++ be N 4 ++ be B 2 ++ be Q 1 ++ be E 2 ++ be F 2) (be L 8) (be I 8 ++ (p ++ z)) 22 8 _ (by simp [hl]) rfl (by omega) (by omega))
  · exact (congrArg (fun l => num l 30 8) (by simp only [List.append_assoc])).trans (num_at (be 16716 2 ++ be 1 1 ++ be S 8 ++ be N 4 ++ be B 2 ++ be Q 1 ++ be E 2 ++ be F 2 ++ be L 8) (be I 8) (p ++ z) 30 8 _ (by simp [hl]) rfl (by omega) (by omega))
  · rw [show (be 16716 2 ++ be 1 1 ++ be S 8 ++ be N 4 ++ be B 2 ++ be Q 1 ++ be E 2 ++ be F 2 ++ be L 8 ++ be I 8 ++ p ++ z) = (be 16716 2 ++ be 1 1 ++ be S 8 ++ be N 4 ++ be B 2 ++ be Q 1 ++ be E 2 ++ be F 2 ++ be L 8 ++ be I 8) ++ (p ++ z) by simp only [List.append_assoc]]
    rw [List.drop_left' (by simp [hl]), List.take_left]

/-- A frame of a header that may be is read. -/
theorem parse_frame (S N B Q E F L I : Nat) (p : List UInt8) (hS : S < 2 ^ 64) (hI : I < 2 ^ 64) (hm : MayH N B Q E F L) (hp : p.length = B) : parseE (frameB S N B Q E F L I p) = 0 := by
  obtain ⟨⟨hN, hB, hQ, hE, hF, hEF⟩, hL0, hL⟩ := hm
  have hr := most_range hN hB
  have hL64 : (L : Int) ≤ 68718428160 := by omega
  obtain ⟨h0, h1, h2, h3, h4, h5, h6, h7, h8, h9, h10⟩ := frame_parts S N B Q E F L I p hS (by omega) (by omega) (by omega) (by omega) (by omega) (by omega) hI
  have hlen := frameB_length S N B Q E F L I p
  have hright : rightB (frameB S N B Q E F L I p) = true := MathA.right_sealed _
  have hhead : headE (frameB S N B Q E F L I p) = 0 := by
    unfold headE
    rw [if_neg (by rw [h0]; simp), if_neg (by rw [h1]; simp), h3, h4, h5, h6, h7, h8, asInt_small L (by omega)]
    exact mayHE_yes ⟨⟨hN, hB, hQ, hE, hF, hEF⟩, hL0, hL⟩
  unfold parseE
  rw [if_neg (by omega), if_neg (by rw [hhead]; simp), if_neg (by rw [h4]; omega), if_neg (by rw [hright]; simp)]

theorem split_at (l : List UInt8) (a s : Nat) : l.drop a = (l.drop a).take s ++ l.drop (a + s) := by
  conv => lhs; rw [← List.take_append_drop s (l.drop a)]
  rw [List.drop_drop]

theorem tl (l : List UInt8) (a s : Nat) (h : a + s ≤ l.length) : ((l.drop a).take s).length = s := by simp; omega

set_option maxHeartbeats 1000000 in
/-- What is read is the frame of what was read. -/
theorem frame_parse (l : List UInt8) (h : parseE l = 0) :
    42 ≤ l.length ∧ l.length = 42 + num l 15 2 ∧ MayH (num l 11 4) (num l 15 2) (num l 17 1) (num l 18 2) (num l 20 2) (num l 22 8) ∧ asInt (num l 22 8) = (num l 22 8 : Nat) ∧
      frameB (num l 3 8) (num l 11 4) (num l 15 2) (num l 17 1) (num l 18 2) (num l 20 2) (num l 22 8) (num l 30 8) ((l.drop 38).take (num l 15 2)) = l := by
  unfold parseE at h
  split at h
  · simp at h
  next h42 =>
    split at h
    next hh => exact absurd h hh
    next hh =>
      split at h
      · simp at h
      next hlen =>
        split at h
        · simp at h
        next hright =>
          have hh' : headE l = 0 := Classical.not_not.1 hh
          have hl : l.length = 42 + num l 15 2 := Classical.not_not.1 hlen
          have hr : rightB l = true := by simpa using hright
          unfold headE at hh'
          split at hh'
          · simp at hh'
          next hm =>
            split at hh'
            · simp at hh'
            next hv =>
              have hm' : num l 0 2 = 16716 := Classical.not_not.1 hm
              have hv' : num l 2 1 = 1 := Classical.not_not.1 hv
              have hmay : MayH (num l 11 4) (num l 15 2) (num l 17 1) (num l 18 2) (num l 20 2) (asInt (num l 22 8)) := by
                by_cases k : MayH (num l 11 4) (num l 15 2) (num l 17 1) (num l 18 2) (num l 20 2) (asInt (num l 22 8))
                · exact k
                · rw [mayHE_no k] at hh'; simp at hh'
              have hL : asInt (num l 22 8) = (num l 22 8 : Nat) := by
                by_cases k : num l 22 8 < 9223372036854775808
                · exact asInt_small _ k
                · have := asInt_neg _ k (num_lt l 22 8)
                  have := hmay.2.1
                  omega
              refine ⟨by omega, hl, by rw [hL] at hmay; exact hmay, hL, ?_⟩
              have e4 : l.length - 4 = 38 + num l 15 2 := by omega
              have hspec := right_spec l (by omega)
              rw [hr, e4] at hspec
              have hspec' := (beq_iff_eq.1 hspec.symm)
              have hhd : headB (num l 3 8) (num l 11 4) (num l 15 2) (num l 17 1) (num l 18 2) (num l 20 2) (num l 22 8) (num l 30 8) ++ (l.drop 38).take (num l 15 2) = l.take (38 + num l 15 2) := by
                unfold headB
                rw [be_num l 3 8 (by omega) (by omega), be_num l 11 4 (by omega) (by omega), be_num l 15 2 (by omega) (by omega), be_num l 17 1 (by omega) (by omega), be_num l 18 2 (by omega) (by omega), be_num l 20 2 (by omega) (by omega), be_num l 22 8 (by omega) (by omega), be_num l 30 8 (by omega) (by omega)]
                have b0 : be 16716 2 = (l.drop 0).take 2 := by rw [← hm']; exact be_num l 0 2 (by omega) (by omega)
                have b1 : be 1 1 = (l.drop 2).take 1 := by rw [← be_num l 2 1 (by omega) (by omega), hv']
                rw [b0, b1]
                generalize num l 15 2 = n at *
                have s0 := split_at l 0 2
                have s1 := split_at l 2 1
                have s2 := split_at l 3 8
                have s3 := split_at l 11 4
                have s4 := split_at l 15 2
                have s5 := split_at l 17 1
                have s6 := split_at l 18 2
                have s7 := split_at l 20 2
                have s8 := split_at l 22 8
                have s9 := split_at l 30 8
                have s10 := split_at l 38 n
                simp only [Nat.zero_add, Nat.reduceAdd] at s0 s1 s2 s3 s4 s5 s6 s7 s8 s9 s10
                have hfull : l.drop 0 = ((l.drop 0).take 2 ++ (l.drop 2).take 1 ++ (l.drop 3).take 8 ++ (l.drop 11).take 4 ++ (l.drop 15).take 2 ++ (l.drop 17).take 1 ++ (l.drop 18).take 2 ++ (l.drop 20).take 2 ++ (l.drop 22).take 8 ++ (l.drop 30).take 8 ++ (l.drop 38).take n) ++ l.drop (38 + n) := by
                  simp only [List.append_assoc]
                  rw [← s10, ← s9, ← s8, ← s7, ← s6, ← s5, ← s4, ← s3, ← s2, ← s1, ← s0]
                have hlen2 : ((l.drop 0).take 2 ++ (l.drop 2).take 1 ++ (l.drop 3).take 8 ++ (l.drop 11).take 4 ++ (l.drop 15).take 2 ++ (l.drop 17).take 1 ++ (l.drop 18).take 2 ++ (l.drop 20).take 2 ++ (l.drop 22).take 8 ++ (l.drop 30).take 8 ++ (l.drop 38).take n).length = 38 + n := by
                  simp only [List.length_append, tl l 0 2 (by omega), tl l 2 1 (by omega), tl l 3 8 (by omega), tl l 11 4 (by omega), tl l 15 2 (by omega), tl l 17 1 (by omega), tl l 18 2 (by omega), tl l 20 2 (by omega), tl l 22 8 (by omega), tl l 30 8 (by omega), tl l 38 n (by omega)]
                have hres := congrArg (List.take (38 + n)) hfull
                rw [List.take_left' hlen2, List.drop_zero] at hres
                exact hres.symm
              unfold frameB sealB
              rw [hhd]
              exact hspec'

end

section
/-
  The walks of package frame: writeHead, Encode.
-/
open Go.RowKit
set_option linter.unusedVariables false

/-- A Writer's state while a header's block is read beside it. -/
def WH (w0 : World) (base b hb : Nat) (row0 : Option Nat) (S N B Q E F L I : Int) (T : List UInt8) (W : World) : Prop :=
  ∃ row, IsWr W base b row T ∧ Eight W hb S N B Q E F L I ∧ row ≠ some hb ∧ b ≠ hb ∧ base ≤ W.heap.size ∧ Fr w0 W b row0 ∧ (row = row0 ∨ ∃ k, row = some k ∧ w0.heap.size ≤ k)

theorem Eight.kept {W W' : World} {b : Nat} {S N B Q E F L I : Int} (h : Eight W b S N B Q E F L I) (hb : W'.heap[b]? = W.heap[b]?) : Eight W' b S N B Q E F L I := by
  obtain ⟨h0, h1, h2, h3, h4, h5, h6, h7⟩ := h
  exact ⟨(World.cell?_of_block (a := ⟨b, 0, none⟩) hb).trans h0, (World.cell?_of_block (a := ⟨b, 1, none⟩) hb).trans h1, (World.cell?_of_block (a := ⟨b, 2, none⟩) hb).trans h2, (World.cell?_of_block (a := ⟨b, 3, none⟩) hb).trans h3, (World.cell?_of_block (a := ⟨b, 4, none⟩) hb).trans h4, (World.cell?_of_block (a := ⟨b, 5, none⟩) hb).trans h5, (World.cell?_of_block (a := ⟨b, 6, none⟩) hb).trans h6, (World.cell?_of_block (a := ⟨b, 7, none⟩) hb).trans h7⟩

theorem wrapU (n : Nat) (h : n < 18446744073709551616) : IntKind.u64.wrap (n : Int) = (n : Int) := by
  simp [IntKind.wrap, IntKind.bits, IntKind.signed]; omega

end

section
/-
  The walk of package frame: Encode.
-/
open Go.RowKit
set_option linter.unusedVariables false

/-- A packet's block, as a box lies. -/
def Nine (W : World) (b : Nat) (S N B Q E F L I : Int) (v : Value) : Prop := Eight W b S N B Q E F L I ∧ W.cell? ⟨b, 8, none⟩ = some v

theorem Nine.below {W W' : World} {b : Nat} {S N B Q E F L I : Int} {v : Value} (h : Nine W b S N B Q E F L I v) (hb : Below W.heap.size W W') : Nine W' b S N B Q E F L I v :=
  ⟨h.1.below hb, (hb.cell (cell_block_lt h.2)).trans h.2⟩

theorem Nine.kept {W W' : World} {b : Nat} {S N B Q E F L I : Int} {v : Value} (h : Nine W b S N B Q E F L I v) (hb : W'.heap[b]? = W.heap[b]?) : Nine W' b S N B Q E F L I v :=
  ⟨h.1.kept hb, (World.cell?_of_block (a := ⟨b, 8, none⟩) hb).trans h.2⟩

theorem Nine.lt {W : World} {b : Nat} {S N B Q E F L I : Int} {v : Value} (h : Nine W b S N B Q E F L I v) : b < W.heap.size := cell_block_lt h.2

theorem nine_new (w : World) (t : TypeId) (S N B Q E F L I : Int) (v : Value) : Nine (w.alloc (.cells #[.int .u64 S, .int .i64 N, .int .i64 B, .int .i64 Q, .int .i64 E, .int .i64 F, .int .i64 L, .int .u64 I, v] t)) w.heap.size S N B Q E F L I v := by
  refine ⟨⟨?_, ?_, ?_, ?_, ?_, ?_, ?_, ?_⟩, ?_⟩ <;> simp

theorem sl_one {W : World} {q : Nat} {v : Value} (h : W.cell? ⟨q, 0, none⟩ = some v) : Sl 1 W (.slice (some ⟨q, 0, none⟩) 1 1) [v].length [v] := by
  refine ⟨rfl, _, _, rfl, Nat.le_refl _, by simp [maxLen], fun h => by simp at h, .inr ⟨_, _, rfl, ?_⟩⟩
  intro j u hj
  have : j = 0 := by have := (List.getElem?_eq_some_iff.1 hj).1; simp at this; omega
  subst this
  simp at hj
  subst hj
  exact h

/-- New bytes at the head of a block, which may be written. -/
def IsOb (base : Nat) (l : List UInt8) : Value → World → Prop := fun v W => ∃ q, v = .slice (some ⟨q, 0, none⟩) l.length l.length ∧ base ≤ q ∧ Own W q l

theorem stays_ob (base : Nat) (l : List UInt8) : Stays (IsOb base l) := fun _ _ _ hb ⟨q, h1, h2, h3⟩ => ⟨q, h1, h2, h3.kept (hb.block q h3.lt)⟩

end

section
/-
  The walks of package frame: readHead.
-/
open Go.RowKit
set_option linter.unusedVariables false

/-- A head that is read, from place a on; the answer's block is still zero. -/
structure RH (w0 : World) (B0 v r q rb : Nat) (l : List UInt8) (a : Nat) (W : World) : Prop where
  rd : IsRdW W r q (l.drop a)
  cap : W.cell? ⟨v, 0, none⟩ = some (.pointer (some ⟨r, 0, none⟩))
  res : Eight W rb 0 0 0 0 0 0 0 0
  fz : ∀ i, W.frozen? ⟨rb, i, none⟩ = false
  vr : v ≠ r
  br : rb ≠ r
  bel : Below B0 w0 W
  ge : B0 ≤ r

theorem RH.keep {w0 : World} {B0 v r q rb : Nat} {l : List UInt8} {a : Nat} {W W' : World} (h : RH w0 B0 v r q rb l a W) (hr : W'.heap[r]? = W.heap[r]?) (hq : W'.heap[q]? = W.heap[q]?) (hv : W'.heap[v]? = W.heap[v]?) (hb : W'.heap[rb]? = W.heap[rb]?) (hbel : Below B0 W W') : RH w0 B0 v r q rb l a W' :=
  ⟨h.rd.kept hr hq, (World.cell?_of_block (a := ⟨v, 0, none⟩) hv).trans h.cap, h.res.kept hb, fun i => (World.frozen?_of_block (a := ⟨rb, i, none⟩) hb).trans (h.fz i), h.vr, h.br, h.bel.trans hbel, h.ge⟩

theorem RH.below {w0 : World} {B0 v r q rb : Nat} {l : List UInt8} {a : Nat} {W W' : World} (h : RH w0 B0 v r q rb l a W) (hq : q < W.heap.size) (hB : B0 ≤ W.heap.size) (hb : Below W.heap.size W W') : RH w0 B0 v r q rb l a W' :=
  h.keep (hb.block _ h.rd.lt) (hb.block _ hq) (hb.block _ (cell_block_lt h.cap)) (hb.block _ (cell_block_lt h.res.1)) (hb.mono hB)

/-- And the header's block that is filled. -/
structure RX (w0 : World) (B0 v r q rb hb : Nat) (l : List UInt8) (a : Nat) (S N B Q E F L I : Int) (W : World) : Prop where
  rh : RH w0 B0 v r q rb l a W
  hd : Eight W hb S N B Q E F L I
  fz : ∀ i, W.frozen? ⟨hb, i, none⟩ = false
  n1 : hb ≠ r
  n2 : hb ≠ q
  n3 : hb ≠ v
  n4 : hb ≠ rb
  ge : B0 ≤ hb

theorem RX.store {w0 : World} {B0 v r q rb hb : Nat} {l : List UInt8} {a : Nat} {S N B Q E F L I S' N' B' Q' E' F' L' I' : Int} {W : World} (h : RX w0 B0 v r q rb hb l a S N B Q E F L I W) (i : Nat) (u : Value) (h8 : Eight (W.setCell ⟨hb, i, none⟩ u) hb S' N' B' Q' E' F' L' I') :
    RX w0 B0 v r q rb hb l a S' N' B' Q' E' F' L' I' (W.setCell ⟨hb, i, none⟩ u) := by
  have hk : ∀ k, k ≠ hb → (W.setCell ⟨hb, i, none⟩ u).heap[k]? = W.heap[k]? := fun k hk => Below.heap_setCell W ⟨hb, i, none⟩ u k hk
  refine ⟨h.rh.keep (hk _ (Ne.symm h.n1)) (hk _ (Ne.symm h.n2)) (hk _ (Ne.symm h.n3)) (hk _ (Ne.symm h.n4)) ((Below.refl _ _).setCell h.ge u), h8, fun j => ?_, h.n1, h.n2, h.n3, h.n4, h.ge⟩
  have := h.fz j
  simpa using this

theorem Eight.set0 {W : World} {b : Nat} {S N B Q E F L I : Int} (h : Eight W b S N B Q E F L I) (S' : Int) : Eight (W.setCell ⟨b, 0, none⟩ (.int .u64 S')) b S' N B Q E F L I := by
  obtain ⟨h0, h1, h2, h3, h4, h5, h6, h7⟩ := h
  refine ⟨?_, ?_, ?_, ?_, ?_, ?_, ?_, ?_⟩
  · exact World.cell?_setCell_same W _ _ h0
  · rw [World.cell?_setCell_other W _ _ _ (by simp)]; exact h1
  · rw [World.cell?_setCell_other W _ _ _ (by simp)]; exact h2
  · rw [World.cell?_setCell_other W _ _ _ (by simp)]; exact h3
  · rw [World.cell?_setCell_other W _ _ _ (by simp)]; exact h4
  · rw [World.cell?_setCell_other W _ _ _ (by simp)]; exact h5
  · rw [World.cell?_setCell_other W _ _ _ (by simp)]; exact h6
  · rw [World.cell?_setCell_other W _ _ _ (by simp)]; exact h7

theorem Eight.set1 {W : World} {b : Nat} {S N B Q E F L I : Int} (h : Eight W b S N B Q E F L I) (N' : Int) : Eight (W.setCell ⟨b, 1, none⟩ (.int .i64 N')) b S N' B Q E F L I := by
  obtain ⟨h0, h1, h2, h3, h4, h5, h6, h7⟩ := h
  refine ⟨?_, ?_, ?_, ?_, ?_, ?_, ?_, ?_⟩
  · rw [World.cell?_setCell_other W _ _ _ (by simp)]; exact h0
  · exact World.cell?_setCell_same W _ _ h1
  · rw [World.cell?_setCell_other W _ _ _ (by simp)]; exact h2
  · rw [World.cell?_setCell_other W _ _ _ (by simp)]; exact h3
  · rw [World.cell?_setCell_other W _ _ _ (by simp)]; exact h4
  · rw [World.cell?_setCell_other W _ _ _ (by simp)]; exact h5
  · rw [World.cell?_setCell_other W _ _ _ (by simp)]; exact h6
  · rw [World.cell?_setCell_other W _ _ _ (by simp)]; exact h7

theorem Eight.set2 {W : World} {b : Nat} {S N B Q E F L I : Int} (h : Eight W b S N B Q E F L I) (B' : Int) : Eight (W.setCell ⟨b, 2, none⟩ (.int .i64 B')) b S N B' Q E F L I := by
  obtain ⟨h0, h1, h2, h3, h4, h5, h6, h7⟩ := h
  refine ⟨?_, ?_, ?_, ?_, ?_, ?_, ?_, ?_⟩
  · rw [World.cell?_setCell_other W _ _ _ (by simp)]; exact h0
  · rw [World.cell?_setCell_other W _ _ _ (by simp)]; exact h1
  · exact World.cell?_setCell_same W _ _ h2
  · rw [World.cell?_setCell_other W _ _ _ (by simp)]; exact h3
  · rw [World.cell?_setCell_other W _ _ _ (by simp)]; exact h4
  · rw [World.cell?_setCell_other W _ _ _ (by simp)]; exact h5
  · rw [World.cell?_setCell_other W _ _ _ (by simp)]; exact h6
  · rw [World.cell?_setCell_other W _ _ _ (by simp)]; exact h7

theorem Eight.set3 {W : World} {b : Nat} {S N B Q E F L I : Int} (h : Eight W b S N B Q E F L I) (Q' : Int) : Eight (W.setCell ⟨b, 3, none⟩ (.int .i64 Q')) b S N B Q' E F L I := by
  obtain ⟨h0, h1, h2, h3, h4, h5, h6, h7⟩ := h
  refine ⟨?_, ?_, ?_, ?_, ?_, ?_, ?_, ?_⟩
  · rw [World.cell?_setCell_other W _ _ _ (by simp)]; exact h0
  · rw [World.cell?_setCell_other W _ _ _ (by simp)]; exact h1
  · rw [World.cell?_setCell_other W _ _ _ (by simp)]; exact h2
  · exact World.cell?_setCell_same W _ _ h3
  · rw [World.cell?_setCell_other W _ _ _ (by simp)]; exact h4
  · rw [World.cell?_setCell_other W _ _ _ (by simp)]; exact h5
  · rw [World.cell?_setCell_other W _ _ _ (by simp)]; exact h6
  · rw [World.cell?_setCell_other W _ _ _ (by simp)]; exact h7

theorem Eight.set4 {W : World} {b : Nat} {S N B Q E F L I : Int} (h : Eight W b S N B Q E F L I) (E' : Int) : Eight (W.setCell ⟨b, 4, none⟩ (.int .i64 E')) b S N B Q E' F L I := by
  obtain ⟨h0, h1, h2, h3, h4, h5, h6, h7⟩ := h
  refine ⟨?_, ?_, ?_, ?_, ?_, ?_, ?_, ?_⟩
  · rw [World.cell?_setCell_other W _ _ _ (by simp)]; exact h0
  · rw [World.cell?_setCell_other W _ _ _ (by simp)]; exact h1
  · rw [World.cell?_setCell_other W _ _ _ (by simp)]; exact h2
  · rw [World.cell?_setCell_other W _ _ _ (by simp)]; exact h3
  · exact World.cell?_setCell_same W _ _ h4
  · rw [World.cell?_setCell_other W _ _ _ (by simp)]; exact h5
  · rw [World.cell?_setCell_other W _ _ _ (by simp)]; exact h6
  · rw [World.cell?_setCell_other W _ _ _ (by simp)]; exact h7

theorem Eight.set5 {W : World} {b : Nat} {S N B Q E F L I : Int} (h : Eight W b S N B Q E F L I) (F' : Int) : Eight (W.setCell ⟨b, 5, none⟩ (.int .i64 F')) b S N B Q E F' L I := by
  obtain ⟨h0, h1, h2, h3, h4, h5, h6, h7⟩ := h
  refine ⟨?_, ?_, ?_, ?_, ?_, ?_, ?_, ?_⟩
  · rw [World.cell?_setCell_other W _ _ _ (by simp)]; exact h0
  · rw [World.cell?_setCell_other W _ _ _ (by simp)]; exact h1
  · rw [World.cell?_setCell_other W _ _ _ (by simp)]; exact h2
  · rw [World.cell?_setCell_other W _ _ _ (by simp)]; exact h3
  · rw [World.cell?_setCell_other W _ _ _ (by simp)]; exact h4
  · exact World.cell?_setCell_same W _ _ h5
  · rw [World.cell?_setCell_other W _ _ _ (by simp)]; exact h6
  · rw [World.cell?_setCell_other W _ _ _ (by simp)]; exact h7

theorem Eight.set6 {W : World} {b : Nat} {S N B Q E F L I : Int} (h : Eight W b S N B Q E F L I) (L' : Int) : Eight (W.setCell ⟨b, 6, none⟩ (.int .i64 L')) b S N B Q E F L' I := by
  obtain ⟨h0, h1, h2, h3, h4, h5, h6, h7⟩ := h
  refine ⟨?_, ?_, ?_, ?_, ?_, ?_, ?_, ?_⟩
  · rw [World.cell?_setCell_other W _ _ _ (by simp)]; exact h0
  · rw [World.cell?_setCell_other W _ _ _ (by simp)]; exact h1
  · rw [World.cell?_setCell_other W _ _ _ (by simp)]; exact h2
  · rw [World.cell?_setCell_other W _ _ _ (by simp)]; exact h3
  · rw [World.cell?_setCell_other W _ _ _ (by simp)]; exact h4
  · rw [World.cell?_setCell_other W _ _ _ (by simp)]; exact h5
  · exact World.cell?_setCell_same W _ _ h6
  · rw [World.cell?_setCell_other W _ _ _ (by simp)]; exact h7

theorem Eight.set7 {W : World} {b : Nat} {S N B Q E F L I : Int} (h : Eight W b S N B Q E F L I) (I' : Int) : Eight (W.setCell ⟨b, 7, none⟩ (.int .u64 I')) b S N B Q E F L I' := by
  obtain ⟨h0, h1, h2, h3, h4, h5, h6, h7⟩ := h
  refine ⟨?_, ?_, ?_, ?_, ?_, ?_, ?_, ?_⟩
  · rw [World.cell?_setCell_other W _ _ _ (by simp)]; exact h0
  · rw [World.cell?_setCell_other W _ _ _ (by simp)]; exact h1
  · rw [World.cell?_setCell_other W _ _ _ (by simp)]; exact h2
  · rw [World.cell?_setCell_other W _ _ _ (by simp)]; exact h3
  · rw [World.cell?_setCell_other W _ _ _ (by simp)]; exact h4
  · rw [World.cell?_setCell_other W _ _ _ (by simp)]; exact h5
  · rw [World.cell?_setCell_other W _ _ _ (by simp)]; exact h6
  · exact World.cell?_setCell_same W _ _ h7

theorem store8 {W : World} {b : Nat} {s n o p q r t u : Int} (h : Eight W b s n o p q r t u) (S N B Q E F L I : Int) : Eight ((((((((W.setCell ⟨b, 0, none⟩ (.int .u64 S)).setCell ⟨b, 1, none⟩ (.int .i64 N)).setCell ⟨b, 2, none⟩ (.int .i64 B)).setCell ⟨b, 3, none⟩ (.int .i64 Q)).setCell ⟨b, 4, none⟩ (.int .i64 E)).setCell ⟨b, 5, none⟩ (.int .i64 F)).setCell ⟨b, 6, none⟩ (.int .i64 L)).setCell ⟨b, 7, none⟩ (.int .u64 I)) b S N B Q E F L I :=
  (((((((h.set0 S).set1 N).set2 B).set3 Q).set4 E).set5 F).set6 L).set7 I

theorem below8 {w0 W : World} {B0 b : Nat} (h : Below B0 w0 W) (hb : B0 ≤ b) (v0 v1 v2 v3 v4 v5 v6 v7 : Value) : Below B0 w0 (((((((((W.setCell ⟨b, 0, none⟩ v0).setCell ⟨b, 1, none⟩ v1).setCell ⟨b, 2, none⟩ v2).setCell ⟨b, 3, none⟩ v3).setCell ⟨b, 4, none⟩ v4).setCell ⟨b, 5, none⟩ v5).setCell ⟨b, 6, none⟩ v6).setCell ⟨b, 7, none⟩ v7)) :=
  (((((((h.setCell hb v0).setCell hb v1).setCell hb v2).setCell hb v3).setCell hb v4).setCell hb v5).setCell hb v6).setCell hb v7

theorem load8 {W : World} {b : Nat} {S N B Q E F L I : Int} (h : Eight W b S N B Q E F L I) : (loadVar 51 ⟨b, 0, none⟩).run Tryz.prog W = .ok (.agg #[.int .u64 S, .int .i64 N, .int .i64 B, .int .i64 Q, .int .i64 E, .int .i64 F, .int .i64 L, .int .u64 I]) W := by
  obtain ⟨h0, h1, h2, h3, h4, h5, h6, h7⟩ := h
  refine run_loadVar_mid W b 0 51 [.int .u64 S, .int .i64 N, .int .i64 B, .int .i64 Q, .int .i64 E, .int .i64 F, .int .i64 L, .int .u64 I] _ ?_ Tryz.underlying51 rfl (by kernel_rfl)
  intro j v hj
  rw [Nat.zero_add]
  have hj8 : j < 8 := by have := (List.getElem?_eq_some_iff.1 hj).1; simpa using this
  match j, hj8 with
  | 0, _ => simp at hj; subst hj; exact h0
  | 1, _ => simp at hj; subst hj; exact h1
  | 2, _ => simp at hj; subst hj; exact h2
  | 3, _ => simp at hj; subst hj; exact h3
  | 4, _ => simp at hj; subst hj; exact h4
  | 5, _ => simp at hj; subst hj; exact h5
  | 6, _ => simp at hj; subst hj; exact h6
  | 7, _ => simp at hj; subst hj; exact h7

theorem load9 {W : World} {b : Nat} {S N B Q E F L I : Int} {v : Value} (h : Nine W b S N B Q E F L I v) : (loadVar 53 ⟨b, 0, none⟩).run Tryz.prog W = .ok (.agg #[.int .u64 S, .int .i64 N, .int .i64 B, .int .i64 Q, .int .i64 E, .int .i64 F, .int .i64 L, .int .u64 I, v]) W := by
  obtain ⟨⟨h0, h1, h2, h3, h4, h5, h6, h7⟩, h8⟩ := h
  refine run_loadVar_mid W b 0 53 [.int .u64 S, .int .i64 N, .int .i64 B, .int .i64 Q, .int .i64 E, .int .i64 F, .int .i64 L, .int .u64 I, v] _ ?_ Tryz.underlying53 rfl (by kernel_rfl)
  intro j u hj
  rw [Nat.zero_add]
  have hj9 : j < 9 := by have := (List.getElem?_eq_some_iff.1 hj).1; simpa using this
  match j, hj9 with
  | 0, _ => simp at hj; subst hj; exact h0
  | 1, _ => simp at hj; subst hj; exact h1
  | 2, _ => simp at hj; subst hj; exact h2
  | 3, _ => simp at hj; subst hj; exact h3
  | 4, _ => simp at hj; subst hj; exact h4
  | 5, _ => simp at hj; subst hj; exact h5
  | 6, _ => simp at hj; subst hj; exact h6
  | 7, _ => simp at hj; subst hj; exact h7
  | 8, _ => simp at hj; subst hj; exact h8

theorem nine_store {W : World} {b : Nat} {s n o p q r t u : Int} {v : Value} (h : Nine W b s n o p q r t u v) (S N B Q E F L I : Int) (v' : Value) : Nine (((((((((W.setCell ⟨b, 0, none⟩ (.int .u64 S)).setCell ⟨b, 1, none⟩ (.int .i64 N)).setCell ⟨b, 2, none⟩ (.int .i64 B)).setCell ⟨b, 3, none⟩ (.int .i64 Q)).setCell ⟨b, 4, none⟩ (.int .i64 E)).setCell ⟨b, 5, none⟩ (.int .i64 F)).setCell ⟨b, 6, none⟩ (.int .i64 L)).setCell ⟨b, 7, none⟩ (.int .u64 I)).setCell ⟨b, 8, none⟩ v') b S N B Q E F L I v' := by
  refine ⟨?_, ?_⟩
  · obtain ⟨h0, h1, h2, h3, h4, h5, h6, h7⟩ := store8 h.1 S N B Q E F L I
    refine ⟨?_, ?_, ?_, ?_, ?_, ?_, ?_, ?_⟩
    · rw [World.cell?_setCell_other _ _ _ _ (by simp)]; exact h0
    · rw [World.cell?_setCell_other _ _ _ _ (by simp)]; exact h1
    · rw [World.cell?_setCell_other _ _ _ _ (by simp)]; exact h2
    · rw [World.cell?_setCell_other _ _ _ _ (by simp)]; exact h3
    · rw [World.cell?_setCell_other _ _ _ _ (by simp)]; exact h4
    · rw [World.cell?_setCell_other _ _ _ _ (by simp)]; exact h5
    · rw [World.cell?_setCell_other _ _ _ _ (by simp)]; exact h6
    · rw [World.cell?_setCell_other _ _ _ _ (by simp)]; exact h7
  · refine World.cell?_setCell_same _ _ _ (u := v) ?_
    rw [World.cell?_setCell_other _ _ _ _ (by simp), World.cell?_setCell_other _ _ _ _ (by simp), World.cell?_setCell_other _ _ _ _ (by simp), World.cell?_setCell_other _ _ _ _ (by simp), World.cell?_setCell_other _ _ _ _ (by simp), World.cell?_setCell_other _ _ _ _ (by simp), World.cell?_setCell_other _ _ _ _ (by simp), World.cell?_setCell_other _ _ _ _ (by simp)]
    exact h.2

theorem ret_cell {fn : Func} {p u : Tmp} {ty : TypeId} (h : fn.results = #[.cell p ty, .tmp u]) {tmps : Array Value} {P : Program} {W : World} {b : Nat} {v x : Value} (hp : tmps.getD p undef = .pointer (some ⟨b, 0, none⟩)) (hx : tmps.getD u undef = x) (hl : (loadVar ty ⟨b, 0, none⟩).run P W = .ok v W) : (results fn tmps).run P W = .ok (.tuple #[v, x]) W := by
  rw [results_cell_tmp h, hp, hx]
  simp [asAddr, Result.andThen, hl]

end

section
/-
  The walk of package frame: readHead.
-/
open Go.RowKit
set_option linter.unusedVariables false

/-- The header's values that a head's bytes say; zero, where they say none. -/
def headV (l : List UInt8) : Array Value :=
  if headE l = 0 then #[.int .u64 (num l 3 8), .int .i64 (num l 11 4), .int .i64 (num l 15 2), .int .i64 (num l 17 1), .int .i64 (num l 18 2), .int .i64 (num l 20 2), .int .i64 (asInt (num l 22 8)), .int .u64 (num l 30 8)]
  else #[.int .u64 0, .int .i64 0, .int .i64 0, .int .i64 0, .int .i64 0, .int .i64 0, .int .i64 0, .int .u64 0]

theorem ret_head {l : List UInt8} {n : Int} {c : Array Value} (h : headE l = n) (hc : headV l = c) : Ending.returned (.tuple #[.agg c, .int .i64 n]) = .returned (.tuple #[.agg (headV l), .int .i64 (headE l)]) := by rw [h, hc]

theorem u64_ne {a b : Nat} (h : a ≠ b) : ((a : Int) == (b : Int)) = false := by simp; omega

end

section
/-
  The walk of package frame: Parse.
-/
open Go.RowKit
set_option linter.unusedVariables false

theorem num_take (l : List UInt8) (a s n : Nat) (h : a + s ≤ n) : num (l.take n) a s = num l a s := by
  unfold num
  rw [List.drop_take, List.take_take, Nat.min_eq_left (by omega)]

theorem headE_take (l : List UInt8) : headE (l.take 38) = headE l := by
  unfold headE
  rw [num_take l 0 2 38 (by omega), num_take l 2 1 38 (by omega), num_take l 11 4 38 (by omega), num_take l 15 2 38 (by omega), num_take l 17 1 38 (by omega), num_take l 18 2 38 (by omega), num_take l 20 2 38 (by omega), num_take l 22 8 38 (by omega)]

theorem headV_take (l : List UInt8) : headV (l.take 38) = headV l := by
  unfold headV
  rw [headE_take, num_take l 3 8 38 (by omega), num_take l 11 4 38 (by omega), num_take l 15 2 38 (by omega), num_take l 17 1 38 (by omega), num_take l 18 2 38 (by omega), num_take l 20 2 38 (by omega), num_take l 22 8 38 (by omega), num_take l 30 8 38 (by omega)]

/-- 'copy(dst, src)' where src is longer: its beginning. -/
theorem wpList_copyL (W : World) {ops : Array Oper} {rest : List Oper} {o : Oper} {a : Act} {Q : Exit → Act → World → Prop} (hgd : o.guard = none) (d s : Operand)
    (ho : o.op = .call { callee := .builtin .copy, args := #[d, s], argTypes := #[25, 25] }) (q n c : Nat) (l b : List UInt8) (v : Value) (hd : a.eval d = .slice (some ⟨q, 0, none⟩) n c) (hs : a.eval s = v) (hB : Blk W q [] l []) (hb : Bs W v b) (hn : n = l.length) (hlen : n ≤ b.length)
    (B : Nat) (w0 : World) (hbel : Below B w0 W) (hBq : B ≤ q)
    (h : ∀ W', Blk W' q [] (b.take n) [] → Below B w0 W' → wpList Tryz.prog ops Q rest (a.put o.dst (.int .i64 n)) W') : wpList Tryz.prog ops Q (o :: rest) a W := by
  obtain ⟨hl, ao, cap, rfl, hnc, hcm, hn0, hc⟩ := hb
  have hg : W.heap[q]? = some (.cells (l.map bv).toArray 5) := by have h := hB; unfold Blk at h; simpa using h
  have hlt : (b.take n).length = n := by simp; omega
  refine wpList_copy_splice hgd d s 25 25 ho 5 Tryz.underlying25 infoSize (some ⟨q, 0, none⟩) ao n c b.length cap hd hs q 0 (l.map bv) 5 hg ((b.take n).map bv) (by rw [List.length_map, hlt]; exact (Nat.min_eq_right hlen).symm) ?_ (by simp; omega) (bv_oneCell _) B w0 hbel hBq ?_
  · intro hpos
    refine ⟨rfl, ?_⟩
    rcases hc with h0 | ⟨b', off, rfl, hc⟩
    · rw [List.length_map, hlt] at hpos; omega
    · refine ⟨_, rfl, fun j u hj => ?_⟩
      rw [Addr.add_lit]
      have hjn : j < n := by have := (List.getElem?_eq_some_iff.1 hj).1; rw [List.length_map, hlt] at this; exact this
      rw [List.map_take, List.getElem?_take, if_pos hjn] at hj
      exact hc j u hj
  · intro W' hW hb'
    rw [splice_all _ _ (by rw [List.length_map, hlt, List.length_map, hn])] at hW
    have := h W' (by unfold Blk; simpa using hW.out) hb'
    rw [List.length_map, hlt]
    simpa [goInt] using this

theorem blk_own {W : World} {q : Nat} {l : List UInt8} (h : Blk W q [] l []) : Own W q l := by
  unfold Blk at h
  refine ⟨(l.map bv).toArray, by simpa using h, by simp, ?_⟩
  exact List.take_of_length_le (by simp)

/-- A frame's piece behind the head. -/
theorem bs_head {w : World} {b off n c : Nat} {l : List UInt8} (h : Bs w (.slice (some ⟨b, off, none⟩) n c) l) (h42 : 42 ≤ n) : Bs w (.slice (some ⟨b, off + 38, none⟩) (n - 38) (c - 38)) (l.drop 38) := by
  have hn := h.src.1
  have h2 := h.mid 38 (n - 38) (by omega)
  have hc : n ≤ c := by obtain ⟨_, _, _, e, hc, _⟩ := h; injection e with _ e2 e3; omega
  rw [if_neg (by omega)] at h2
  have e : (l.drop 38).take (n - 38) = l.drop 38 := List.take_of_length_le (by simp; omega)
  rw [e] at h2
  simpa [Addr.add] using h2

theorem below9 {w0 W : World} {B0 b : Nat} (h : Below B0 w0 W) (hb : B0 ≤ b) (v0 v1 v2 v3 v4 v5 v6 v7 v8 : Value) : Below B0 w0 ((((((((((W.setCell ⟨b, 0, none⟩ v0).setCell ⟨b, 1, none⟩ v1).setCell ⟨b, 2, none⟩ v2).setCell ⟨b, 3, none⟩ v3).setCell ⟨b, 4, none⟩ v4).setCell ⟨b, 5, none⟩ v5).setCell ⟨b, 6, none⟩ v6).setCell ⟨b, 7, none⟩ v7).setCell ⟨b, 8, none⟩ v8)) :=
  (below8 h hb v0 v1 v2 v3 v4 v5 v6 v7).setCell hb v8

theorem ret_pair {c : Array Value} {n m : Int} (h : m = n) : Ending.returned (.tuple #[.agg c, .int .i64 n]) = .returned (.tuple #[.agg c, .int .i64 m]) := by rw [h]

end

section
/-
  The walk of package frame: Parse, the sum and the packet.
-/
open Go.RowKit
set_option linter.unusedVariables false

/-- The packet that a frame's bytes are, its payload in block q. -/
def packV (l : List UInt8) (q : Nat) : Array Value := #[.int .u64 (num l 3 8), .int .i64 (num l 11 4), .int .i64 (num l 15 2), .int .i64 (num l 17 1), .int .i64 (num l 18 2), .int .i64 (num l 20 2), .int .i64 (asInt (num l 22 8)), .int .u64 (num l 30 8), .slice (some ⟨q, 0, none⟩) (num l 15 2) (num l 15 2)]

/-- The payload of a frame. -/
def payB (l : List UInt8) : List UInt8 := (l.drop 38).take (num l 15 2)

end

section
/-
  The walks of the document's own answers for frames: Get, number, Same.
-/
open Go.RowKit
set_option linter.unusedVariables false

theorem add64_nat (m : Nat) (y : UInt8) (hm : m < 18446744073709551616) : IntKind.u64.wrap (IntKind.u64.wrap ((m : Int) * 256) + (y.toNat : Int)) = (((m * 256 + y.toNat) % 18446744073709551616 : Nat) : Int) := by
  have hwr : ∀ x : Int, IntKind.u64.wrap x = x % 18446744073709551616 := by intro x; simp [IntKind.wrap, IntKind.bits, IntKind.signed]
  rw [hwr, hwr]
  omega

end

section
/-
  The walk of the document's own Parse.
-/
open Go.RowKit
set_option linter.unusedVariables false

/-- The packet that a frame's bytes are, its payload in block q, with room k. -/
def packW (l : List UInt8) (q k : Nat) : Array Value := #[.int .u64 (num l 3 8), .int .i64 (num l 11 4), .int .i64 (num l 15 2), .int .i64 (num l 17 1), .int .i64 (num l 18 2), .int .i64 (num l 20 2), .int .i64 (asInt (num l 22 8)), .int .u64 (num l 30 8), .slice (some ⟨q, 0, none⟩) (num l 15 2) k]

/-- What the document's Parse answers. -/
def RP (l : List UInt8) (r : Array Value) (W : World) : Prop :=
  (parseE l ≠ 0 ∧ r = #[.int .u64 0, .int .i64 0, .int .i64 0, .int .i64 0, .int .i64 0, .int .i64 0, .int .i64 0, .int .u64 0, .slice none 0 0]) ∨ (parseE l = 0 ∧ ∃ q k, r = packW l q k ∧ Bs W (.slice (some ⟨q, 0, none⟩) (num l 15 2) k) (payB l))

theorem num_one (l : List UInt8) (a : Nat) (h : a < l.length) : num l a 1 = (l[a]).toNat := by
  unfold num
  rw [List.drop_eq_getElem_cons h, List.take_succ_cons, List.take_zero]
  have := (l[a]).toNat_lt
  show (0 * 256 + (l[a]).toNat) % 18446744073709551616 = _
  omega

theorem ret_rp {l : List UInt8} {n : Int} {r : Array Value} {W w : World} (h : parseE l = n) (hr : RP l r W) (hb : Below w.heap.size w W) :
    ∃ r', Ending.returned (.tuple #[.agg r, .int .i64 n]) = .returned (.tuple #[.agg r', .int .i64 (parseE l)]) ∧ RP l r' W ∧ Below w.heap.size w W := ⟨r, by rw [h], hr, hb⟩

theorem rp_no {l : List UInt8} {n : Int} {W : World} (h : parseE l = n) (hn : n ≠ 0) : RP l #[.int .u64 0, .int .i64 0, .int .i64 0, .int .i64 0, .int .i64 0, .int .i64 0, .int .i64 0, .int .u64 0, .slice none 0 0] W := .inl ⟨by rw [h]; exact hn, rfl⟩

theorem pe_short {l : List UInt8} (h : l.length < 42) : parseE l = 4 := by unfold parseE; rw [if_pos h]
theorem pe_head {l : List UInt8} (h : ¬ l.length < 42) (hh : headE l ≠ 0) : parseE l = headE l := by unfold parseE; rw [if_neg h, if_pos hh]
theorem pe_len {l : List UInt8} (h : ¬ l.length < 42) (hh : headE l = 0) (hl : l.length ≠ 42 + num l 15 2) : parseE l = 7 := by unfold parseE; rw [if_neg h, if_neg (by rw [hh]; simp), if_pos hl]
theorem pe_sum {l : List UInt8} (h : ¬ l.length < 42) (hh : headE l = 0) (hl : l.length = 42 + num l 15 2) (hr : rightB l = false) : parseE l = 8 := by unfold parseE; rw [if_neg h, if_neg (by rw [hh]; simp), if_neg (by rw [← hl]; simp), if_pos hr]
theorem pe_ok {l : List UInt8} (h : ¬ l.length < 42) (hh : headE l = 0) (hl : l.length = 42 + num l 15 2) (hr : rightB l = true) : parseE l = 0 := by unfold parseE; rw [if_neg h, if_neg (by rw [hh]; simp), if_neg (by rw [← hl]; simp), if_neg (by rw [hr]; simp)]

theorem rp_end {w W W' : World} {T : List UInt8} {z0 z1 z2 z3 z4 z5 z7 : Nat} {z6 : Int} {qq kk : Nat} (NW : Nine W' w.heap.size 0 0 0 0 0 0 0 0 (.slice none 0 0)) (hX : Below w.heap.size w W') (hlt : w.heap.size < W.heap.size) (hown : IsOwn W.heap.size (payB T) (.slice (some ⟨qq, 0, none⟩) (payB T).length kk) W') (PE : parseE T = 0)
    (PW : packW T = fun q k => #[.int .u64 (z0 : Nat), .int .i64 (z1 : Nat), .int .i64 (z2 : Nat), .int .i64 (z3 : Nat), .int .i64 (z4 : Nat), .int .i64 (z5 : Nat), .int .i64 z6, .int .u64 (z7 : Nat), .slice (some ⟨q, 0, none⟩) z2 k]) (PL : (payB T).length = z2) (HZ2 : num T 15 2 = z2) :
    ∃ r', Ending.returned (.tuple #[.agg #[.int .u64 (z0 : Nat), .int .i64 (z1 : Nat), .int .i64 (z2 : Nat), .int .i64 (z3 : Nat), .int .i64 (z4 : Nat), .int .i64 (z5 : Nat), .int .i64 z6, .int .u64 (z7 : Nat), (.slice (some ⟨qq, 0, none⟩) (payB T).length kk)], .int .i64 0]) = .returned (.tuple #[.agg r', .int .i64 (parseE T)]) ∧ RP T r' (((((((((W'.setCell ⟨w.heap.size, 0, none⟩ (.int .u64 (z0 : Nat))).setCell ⟨w.heap.size, 1, none⟩ (.int .i64 (z1 : Nat))).setCell ⟨w.heap.size, 2, none⟩ (.int .i64 (z2 : Nat))).setCell ⟨w.heap.size, 3, none⟩ (.int .i64 (z3 : Nat))).setCell ⟨w.heap.size, 4, none⟩ (.int .i64 (z4 : Nat))).setCell ⟨w.heap.size, 5, none⟩ (.int .i64 (z5 : Nat))).setCell ⟨w.heap.size, 6, none⟩ (.int .i64 z6)).setCell ⟨w.heap.size, 7, none⟩ (.int .u64 (z7 : Nat))).setCell ⟨w.heap.size, 8, none⟩ (.slice (some ⟨qq, 0, none⟩) (payB T).length kk)) ∧ Below w.heap.size w (((((((((W'.setCell ⟨w.heap.size, 0, none⟩ (.int .u64 (z0 : Nat))).setCell ⟨w.heap.size, 1, none⟩ (.int .i64 (z1 : Nat))).setCell ⟨w.heap.size, 2, none⟩ (.int .i64 (z2 : Nat))).setCell ⟨w.heap.size, 3, none⟩ (.int .i64 (z3 : Nat))).setCell ⟨w.heap.size, 4, none⟩ (.int .i64 (z4 : Nat))).setCell ⟨w.heap.size, 5, none⟩ (.int .i64 (z5 : Nat))).setCell ⟨w.heap.size, 6, none⟩ (.int .i64 z6)).setCell ⟨w.heap.size, 7, none⟩ (.int .u64 (z7 : Nat))).setCell ⟨w.heap.size, 8, none⟩ (.slice (some ⟨qq, 0, none⟩) (payB T).length kk)) := by
  obtain ⟨q2, k2, post, e2, hq2, hbl, hle, hcm, hcap⟩ := hown
  injection e2 with e2 _ e4
  injection e2 with e2
  injection e2 with e2 _ _
  subst e2; subst e4
  refine ⟨packW T qq kk, by rw [PW, PE, PL], .inr ⟨PE, qq, kk, rfl, ?_⟩, below9 hX (Nat.le_refl _) _ _ _ _ _ _ _ _ _⟩
  have hne : qq ≠ w.heap.size := by omega
  have hk : ∀ (W : World) (i : Nat) (u : Value), (W.setCell ⟨w.heap.size, i, none⟩ u).heap[qq]? = W.heap[qq]? := fun W i u => Below.heap_setCell W ⟨w.heap.size, i, none⟩ u _ hne
  refine (hbl.kept ?_).bs0 _ _ (by rw [HZ2, PL]) (by omega) hcm
  rw [hk, hk, hk, hk, hk, hk, hk, hk, hk]

end

section
/-
  What is read of a frame, and of what was read; the frame statements' own first look.
-/
open Go.RowKit
set_option linter.unusedVariables false

/-- What is read of a frame that was written. -/
theorem pack_frame (S N B Q E F L I : Nat) (p : List UInt8) (hS : S < 2 ^ 64) (hI : I < 2 ^ 64) (hm : MayH N B Q E F L) (hp : p.length = B) :
    (∀ q, packV (frameB S N B Q E F L I p) q = #[.int .u64 (S : Nat), .int .i64 (N : Nat), .int .i64 (B : Nat), .int .i64 (Q : Nat), .int .i64 (E : Nat), .int .i64 (F : Nat), .int .i64 (L : Nat), .int .u64 (I : Nat), .slice (some ⟨q, 0, none⟩) B B]) ∧ payB (frameB S N B Q E F L I p) = p := by
  obtain ⟨⟨hN, hB, hQ, hE, hF, hEF⟩, hL0, hL⟩ := hm
  have hr := most_range hN hB
  obtain ⟨h0, h1, h2, h3, h4, h5, h6, h7, h8, h9, h10⟩ := frame_parts S N B Q E F L I p hS (by omega) (by omega) (by omega) (by omega) (by omega) (by omega) hI
  constructor
  · intro q
    unfold packV
    rw [h2, h3, h4, h5, h6, h7, h8, h9, asInt_small L (by omega)]
  · unfold payB
    rw [hp] at h10
    rw [h4]
    exact h10

/-- What was read of bytes that are a frame. -/
theorem parsed_ok (l : List UInt8) (h : parseE l = 0) : ∃ z0 z1 z2 z3 z4 z5 z6 z7 : Nat, (∀ q, packV l q = #[.int .u64 (z0 : Nat), .int .i64 (z1 : Nat), .int .i64 (z2 : Nat), .int .i64 (z3 : Nat), .int .i64 (z4 : Nat), .int .i64 (z5 : Nat), .int .i64 (z6 : Nat), .int .u64 (z7 : Nat), .slice (some ⟨q, 0, none⟩) z2 z2]) ∧ (∀ q k, packW l q k = #[.int .u64 (z0 : Nat), .int .i64 (z1 : Nat), .int .i64 (z2 : Nat), .int .i64 (z3 : Nat), .int .i64 (z4 : Nat), .int .i64 (z5 : Nat), .int .i64 (z6 : Nat), .int .u64 (z7 : Nat), .slice (some ⟨q, 0, none⟩) z2 k]) ∧
    MayH z1 z2 z3 z4 z5 z6 ∧ frameB z0 z1 z2 z3 z4 z5 z6 z7 (payB l) = l ∧ (payB l).length = z2 ∧ l.length = 42 + z2 ∧ z0 < 2 ^ 64 ∧ z7 < 2 ^ 64 ∧ num l 15 2 = z2 := by
  obtain ⟨h42, hlen, hmay, hL, hfr⟩ := frame_parse l h
  refine ⟨num l 3 8, num l 11 4, num l 15 2, num l 17 1, num l 18 2, num l 20 2, num l 22 8, num l 30 8, ?_, ?_, hmay, hfr, ?_, hlen, num_lt l 3 8, num_lt l 30 8, rfl⟩
  · intro q
    unfold packV
    rw [hL]
  · intro q k
    unfold packW
    rw [hL]
  · unfold payB
    simp
    omega

theorem bs_nil (w : World) : Bs w (.slice none 0 0) [] := ⟨rfl, none, 0, rfl, Nat.le_refl _, by simp [maxLen], fun _ => rfl, .inl rfl⟩

theorem may_smallF : MayH ((3 : Nat) : Int) ((2 : Nat) : Int) ((1 : Nat) : Int) ((1000 : Nat) : Int) ((2 : Nat) : Int) ((6 : Nat) : Int) := by unfold MayH May; decide

end

section
/-
  The walk of the document's own Encode.
-/
open Go.RowKit
set_option linter.unusedVariables false

/-- An operation that isn't done has left its slot as it was. -/
def Ini (listed : Array Bool) (xv : Nat → Value) (c : Nat) (v : Value) : Prop := listed.getD c false = false → xv c = v

theorem Ini.skip {listed : Array Bool} {xv : Nat → Value} {c i : Nat} {v u : Value} (h : Ini listed xv c v) (hc : c ≠ i) : Ini (listed.setIfInBounds i true) (updV xv i u) c v := by
  intro hl
  rw [getD_set_other hc] at hl
  unfold updV
  rw [if_neg hc]
  exact h hl

theorem Ini.done {listed : Array Bool} {xv : Nat → Value} {c : Nat} {v u : Value} (h : listed.getD c true = false) : Ini (listed.setIfInBounds c true) (updV xv c u) c v := by
  intro hl
  rw [getD_set_self h] at hl
  cases hl

/-- Bytes that are owned, from base on. -/
def IsOw (base : Nat) (l : List UInt8) : Value → World → Prop := fun v W => ∃ a c, v = .slice a l.length c ∧ W.ownsRow base 5 1 (.slice a l.length c) l.length (l.map bv)

theorem stays_ow (base : Nat) (l : List UInt8) : Stays (IsOw base l) := fun _ _ _ hb ⟨a, c, h1, h2⟩ => ⟨a, c, h1, owns_kept h2 (fun q hq => hb.block q (h2.lt q hq).2)⟩

theorem IsOw.bs {base : Nat} {l : List UInt8} {v : Value} {W : World} (h : IsOw base l v W) : Bs W v l := by
  obtain ⟨a, c, rfl, h⟩ := h
  exact owned_sl h

theorem owns_monoF {w : World} {base base' : Nat} {e : TypeId} {size : Nat} {v : Value} {n : Nat} {xs : List Value} (h : w.ownsRow base' e size v n xs) (hb : base ≤ base') : w.ownsRow base e size v n xs := by
  refine ⟨h.1, ?_⟩
  rcases h.2 with h' | ⟨g, cap, cur, hv, hg, hx⟩
  · exact .inl h'
  · exact .inr ⟨g, cap, cur, hv, Nat.le_trans hb hg, hx⟩

theorem Nine.all {W : World} {b : Nat} {S N B Q E F L I : Int} {v : Value} (h : Nine W b S N B Q E F L I v) : W.cell? ⟨b, 0, none⟩ = some (.int .u64 S) ∧ W.cell? ⟨b, 1, none⟩ = some (.int .i64 N) ∧ W.cell? ⟨b, 2, none⟩ = some (.int .i64 B) ∧ W.cell? ⟨b, 3, none⟩ = some (.int .i64 Q) ∧ W.cell? ⟨b, 4, none⟩ = some (.int .i64 E) ∧ W.cell? ⟨b, 5, none⟩ = some (.int .i64 F) ∧ W.cell? ⟨b, 6, none⟩ = some (.int .i64 L) ∧ W.cell? ⟨b, 7, none⟩ = some (.int .u64 I) ∧ W.cell? ⟨b, 8, none⟩ = some v := by
  obtain ⟨⟨h0, h1, h2, h3, h4, h5, h6, h7⟩, h8⟩ := h
  exact ⟨h0, h1, h2, h3, h4, h5, h6, h7, h8⟩

end

section
/-
  Bytes that are owned and written; the numbers of a packet that may be.
-/
open Go.RowKit
set_option linter.unusedVariables false

/-- Whatever it is. -/
def IsAny : Value → World → Prop := fun _ _ => True
theorem stays_any : Stays IsAny := fun _ _ _ _ _ => trivial

theorem Own.set {w : World} {q : Nat} {l : List UInt8} (h : Own w q l) (k : Nat) (hk : k < l.length) (x : UInt8) : Own (w.setCell ⟨q, k, none⟩ (bv x)) q (l.set k x) := by
  obtain ⟨cur, hh, hl, ht⟩ := h
  refine ⟨cur.setIfInBounds k (bv x), ?_, by simp; omega, ?_⟩
  · unfold World.setCell
    simp only [Array.getElem?_modify, if_true, hh, Option.map_some]
    rfl
  · rw [Array.toList_setIfInBounds, List.length_set, List.take_set, ht, List.map_set]

theorem inc_byte (y : UInt8) : Value.int .u8 (((y.toNat : Int) + 1) % 256) = bv (y + 1) := by
  unfold bv
  congr 1

/-- A header that may be, as numbers from 0 on. -/
theorem may_nats {N B Q E F L : Int} (h : MayH N B Q E F L) : ∃ n b q e f l : Nat, N = n ∧ B = b ∧ Q = q ∧ E = e ∧ F = f ∧ L = l := by
  obtain ⟨⟨hN, hB, hQ, hE, hF, hEF⟩, hL0, hL⟩ := h
  exact ⟨N.toNat, B.toNat, Q.toNat, E.toNat, F.toNat, L.toNat, by omega, by omega, by omega, by omega, by omega, by omega⟩

theorem ok_u64 {n : Int} (h : Ok .u64 n) : ∃ k : Nat, n = k ∧ k < 2 ^ 64 := by
  have h1 : 0 ≤ n ∧ n ≤ 18446744073709551615 := by
    simp [Ok, Lit.wf, IntKind.min, IntKind.max, IntKind.bits, IntKind.signed] at h
    omega
  exact ⟨n.toNat, by omega, by omega⟩

end

end Go.Proofs.YtkckbeekehecnaaGreat
