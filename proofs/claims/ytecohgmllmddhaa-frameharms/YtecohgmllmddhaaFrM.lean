/-
  Plain mathematics of frames: what is written, what is read; there and back.
-/
import Derived.Test.YtecohgmllmddhaaFrA
import Derived.Test.YtecohgmllmddhaaWireM
import Derived.Test.YtecohgmllmddhaaCRefC
namespace Go.Proofs.Ytecohgmllmddhaa
open Go.RowKit
set_option linter.unusedVariables false

/-- The head's bytes. -/
def headB (S N B Q E F L I : Nat) : List UInt8 := be 16716 2 ++ be 1 1 ++ be S 8 ++ be N 4 ++ be B 2 ++ be Q 1 ++ be E 2 ++ be F 2 ++ be L 8 ++ be I 8

theorem headB_length (S N B Q E F L I : Nat) : (headB S N B Q E F L I).length = 38 := by
  simp [headB, be_length]

/-- Bytes with their sum. -/
def sealB (l : List UInt8) : List UInt8 := l ++ be4 (MathA.sum l)

theorem sealB_length (l : List UInt8) : (sealB l).length = l.length + 4 := by simp [sealB, be4]

/-- A frame's bytes. -/
def frameB (S N B Q E F L I : Nat) (p : List UInt8) : List UInt8 := sealB (headB S N B Q E F L I ++ p)

theorem frameB_length (S N B Q E F L I : Nat) (p : List UInt8) : (frameB S N B Q E F L I p).length = 42 + p.length := by
  simp [frameB, sealB_length, headB_length]; omega

/-- The number that stands at a place. -/
def num (l : List UInt8) (a s : Nat) : Nat := num64 ((l.drop a).take s)

theorem num_lt (l : List UInt8) (a s : Nat) : num l a s < 18446744073709551616 := num64_lt _

theorem num_at (pre x post : List UInt8) (a s n : Nat) (ha : pre.length = a) (hx : x = be n s) (hn : n < 2 ^ (8 * s)) (h64 : n < 18446744073709551616) : num (pre ++ (x ++ post)) a s = n := by
  subst ha; subst hx
  unfold num
  rw [List.drop_left, List.take_left' (be_length n s)]
  exact num64_be n s hn h64

theorem num64_snoc (l : List UInt8) (x : UInt8) : num64 (l ++ [x]) = (num64 l * 256 + x.toNat) % 18446744073709551616 := by
  unfold num64
  rw [List.foldl_append]
  rfl

theorem num64_small (l : List UInt8) (h : l.length ≤ 8) : num64 l < 2 ^ (8 * l.length) := by
  have H : ∀ n, ∀ l : List UInt8, l.length = n → n ≤ 8 → num64 l < 2 ^ (8 * n) := by
    intro n
    induction n with
    | zero =>
      intro l hl _
      have : l = [] := List.eq_nil_of_length_eq_zero hl
      subst this
      simp [num64]
    | succ n ih =>
      intro l hl hn
      have hne : l ≠ [] := by intro e; subst e; simp at hl
      obtain ⟨l', x, rfl⟩ : ∃ l' x, l = l' ++ [x] := ⟨l.dropLast, l.getLast hne, (List.dropLast_concat_getLast hne).symm⟩
      have hl' : l'.length = n := by simp at hl; omega
      have h1 := ih l' hl' (by omega)
      have h2 := x.toNat_lt
      rw [num64_snoc]
      have e : (2 : Nat) ^ (8 * (n + 1)) = 2 ^ (8 * n) * 256 := by rw [show 8 * (n + 1) = 8 * n + 8 by omega, Nat.pow_add]
      rw [e]
      have h3 : num64 l' * 256 + x.toNat < 2 ^ (8 * n) * 256 := by omega
      exact Nat.lt_of_le_of_lt (Nat.mod_le _ _) h3
  exact H l.length l rfl h

theorem be_snoc (n s : Nat) : be n (s + 1) = be (n / 256) s ++ [UInt8.ofNat n] := by
  unfold be
  rw [List.range_succ, List.map_append]
  congr 1
  · apply List.map_congr_left
    intro i hi
    have hi' : i < s := by simpa using hi
    congr 1
    rw [show 8 * (s + 1 - 1 - i) = 8 + 8 * (s - 1 - i) by omega, Nat.pow_add, ← Nat.div_div_eq_div_mul]
  · simp

/-- Bytes are what their number is as bytes. -/
theorem be_num64 (l : List UInt8) (h : l.length ≤ 8) : be (num64 l) l.length = l := by
  have H : ∀ n, ∀ l : List UInt8, l.length = n → n ≤ 8 → be (num64 l) n = l := by
    intro n
    induction n with
    | zero =>
      intro l hl _
      have : l = [] := List.eq_nil_of_length_eq_zero hl
      subst this
      rfl
    | succ n ih =>
      intro l hl hn
      have hne : l ≠ [] := by intro e; subst e; simp at hl
      obtain ⟨l', x, rfl⟩ : ∃ l' x, l = l' ++ [x] := ⟨l.dropLast, l.getLast hne, (List.dropLast_concat_getLast hne).symm⟩
      have hl' : l'.length = n := by simp at hl; omega
      have h1 := num64_small l' (by omega)
      have h2 := x.toNat_lt
      have e : (2 : Nat) ^ (8 * l'.length) ≤ 2 ^ 56 := Nat.pow_le_pow_right (by omega) (by omega)
      have h3 : num64 l' * 256 + x.toNat < 18446744073709551616 := by omega
      rw [be_snoc, num64_snoc, Nat.mod_eq_of_lt h3]
      have h4 : (num64 l' * 256 + x.toNat) / 256 = num64 l' := by omega
      rw [h4, ih l' hl' (by omega)]
      congr 1
      have h5 : UInt8.ofNat (num64 l' * 256 + x.toNat) = x := by
        apply UInt8.toNat_inj.1
        simp
      rw [h5]
  exact H l.length l rfl h

theorem be_num (l : List UInt8) (a s : Nat) (h : a + s ≤ l.length) (hs : s ≤ 8) : be (num l a s) s = (l.drop a).take s := by
  have hl : ((l.drop a).take s).length = s := by simp; omega
  have := be_num64 ((l.drop a).take s) (by omega)
  rw [hl] at this
  exact this

theorem num_small (l : List UInt8) (a s : Nat) (hs : s ≤ 8) : num l a s < 2 ^ (8 * s) := by
  have h := num64_small ((l.drop a).take s) (by simp; omega)
  have h2 : (2 : Nat) ^ (8 * ((l.drop a).take s).length) ≤ 2 ^ (8 * s) := Nat.pow_le_pow_right (by omega) (by simp; omega)
  exact Nat.lt_of_lt_of_le h h2

/-- A number of 64 bits as an int. -/
def asInt (n : Nat) : Int := IntKind.i64.wrap (n : Int)

theorem asInt_small (n : Nat) (h : n < 9223372036854775808) : asInt n = (n : Int) := by
  unfold asInt
  rw [IntKind.wrap_i64]
  omega

theorem asInt_neg (n : Nat) (h : ¬ n < 9223372036854775808) (h2 : n < 18446744073709551616) : asInt n < 0 := by
  unfold asInt
  rw [IntKind.wrap_i64]
  omega

/-- What a head's bytes say: the error's number. -/
def headE (l : List UInt8) : Int :=
  if num l 0 2 ≠ 16716 then 5 else if num l 2 1 ≠ 1 then 6 else mayHE (num l 11 4) (num l 15 2) (num l 17 1) (num l 18 2) (num l 20 2) (asInt (num l 22 8))

/-- Why bytes are no frame: the error's number. -/
def parseE (l : List UInt8) : Int :=
  if l.length < 42 then 4 else if headE l ≠ 0 then headE l else if l.length ≠ 42 + num l 15 2 then 7 else if rightB l = false then 8 else 0

/-- There and back: the parts of a frame. -/
theorem frame_parts (S N B Q E F L I : Nat) (p : List UInt8) (hS : S < 2 ^ 64) (hN : N < 2 ^ 32) (hB : B < 2 ^ 16) (hQ : Q < 2 ^ 8) (hE : E < 2 ^ 16) (hF : F < 2 ^ 16) (hL : L < 2 ^ 64) (hI : I < 2 ^ 64) :
    let l := frameB S N B Q E F L I p
    num l 0 2 = 16716 ∧ num l 2 1 = 1 ∧ num l 3 8 = S ∧ num l 11 4 = N ∧ num l 15 2 = B ∧ num l 17 1 = Q ∧ num l 18 2 = E ∧ num l 20 2 = F ∧ num l 22 8 = L ∧ num l 30 8 = I ∧ (l.drop 38).take p.length = p := by
  have hl : ∀ n s, (be n s).length = s := be_length
  simp only [frameB, sealB, headB]
  generalize be4 (MathA.sum (be 16716 2 ++ be 1 1 ++ be S 8 ++ be N 4 ++ be B 2 ++ be Q 1 ++ be E 2 ++ be F 2 ++ be L 8 ++ be I 8 ++ p)) = z
  refine ⟨?_, ?_, ?_, ?_, ?_, ?_, ?_, ?_, ?_, ?_, ?_⟩
  · exact (congrArg (fun l => num l 0 2) (by simp only [List.append_assoc, List.nil_append])).trans (num_at [] (be 16716 2) (be 1 1 ++ (be S 8 ++ (be N 4 ++ (be B 2 ++ (be Q 1 ++ (be E 2 ++ (be F 2 ++ (be L 8 ++ (be I 8 ++ (p ++ z)))))))))) 0 2 _ rfl rfl (by decide) (by decide))
  · exact (congrArg (fun l => num l 2 1) (by simp only [List.append_assoc])).trans (num_at (be 16716 2) (be 1 1) (be S 8 ++ (be N 4 ++ (be B 2 ++ (be Q 1 ++ (be E 2 ++ (be F 2 ++ (be L 8 ++ (be I 8 ++ (p ++ z))))))))) 2 1 _ (hl _ _) rfl (by decide) (by decide))
  · exact (congrArg (fun l => num l 3 8) (by simp only [List.append_assoc])).trans (num_at (be 16716 2 ++ be 1 1) (be S 8) (be N 4 ++ (be B 2 ++ (be Q 1 ++ (be E 2 ++ (be F 2 ++ (be L 8 ++ (be I 8 ++ (p ++ z)))))))) 3 8 _ (by simp [hl]) rfl (by omega) (by omega))
  · exact (congrArg (fun l => num l 11 4) (by simp only [List.append_assoc])).trans (num_at (be 16716 2 ++ be 1 1 ++ be S 8) (be N 4) (be B 2 ++ (be Q 1 ++ (be E 2 ++ (be F 2 ++ (be L 8 ++ (be I 8 ++ (p ++ z))))))) 11 4 _ (by simp [hl]) rfl (by omega) (by omega))
  · exact (congrArg (fun l => num l 15 2) (by simp only [List.append_assoc])).trans (num_at (be 16716 2 ++ be 1 1 ++ be S 8 ++ be N 4) (be B 2) (be Q 1 ++ (be E 2 ++ (be F 2 ++ (be L 8 ++ (be I 8 ++ (p ++ z)))))) 15 2 _ (by simp [hl]) rfl (by omega) (by omega))
  · exact (congrArg (fun l => num l 17 1) (by simp only [List.append_assoc])).trans (num_at (be 16716 2 ++ be 1 1 ++ be S 8 ++ be N 4 ++ be B 2) (be Q 1) (be E 2 ++ (be F 2 ++ (be L 8 ++ (be I 8 ++ (p ++ z))))) 17 1 _ (by simp [hl]) rfl (by omega) (by omega))
  · exact (congrArg (fun l => num l 18 2) (by simp only [List.append_assoc])).trans (num_at (be 16716 2 ++ be 1 1 ++ be S 8 ++ be N 4 ++ be B 2 ++ be Q 1) (be E 2) (be F 2 ++ (be L 8 ++ (be I 8 ++ (p ++ z)))) 18 2 _ (by simp [hl]) rfl (by omega) (by omega))
  · exact (congrArg (fun l => num l 20 2) (by simp only [List.append_assoc])).trans (num_at (be 16716 2 ++ be 1 1 ++ be S 8 ++ be N 4 ++ be B 2 ++ be Q 1 ++ be E 2) (be F 2) (be L 8 ++ (be I 8 ++ (p ++ z))) 20 2 _ (by simp [hl]) rfl (by omega) (by omega))
  · exact (congrArg (fun l => num l 22 8) (by simp only [List.append_assoc])).trans (num_at (be 16716 2 ++ be 1 1 ++ be S 8 ++ be N 4 ++ be B 2 ++ be Q 1 ++ be E 2 ++ be F 2) (be L 8) (be I 8 ++ (p ++ z)) 22 8 _ (by simp [hl]) rfl (by omega) (by omega))
  · exact (congrArg (fun l => num l 30 8) (by simp only [List.append_assoc])).trans (num_at (be 16716 2 ++ be 1 1 ++ be S 8 ++ be N 4 ++ be B 2 ++ be Q 1 ++ be E 2 ++ be F 2 ++ be L 8) (be I 8) (p ++ z) 30 8 _ (by simp [hl]) rfl (by omega) (by omega))
  · rw [show (be 16716 2 ++ be 1 1 ++ be S 8 ++ be N 4 ++ be B 2 ++ be Q 1 ++ be E 2 ++ be F 2 ++ be L 8 ++ be I 8 ++ p ++ z) = (be 16716 2 ++ be 1 1 ++ be S 8 ++ be N 4 ++ be B 2 ++ be Q 1 ++ be E 2 ++ be F 2 ++ be L 8 ++ be I 8) ++ (p ++ z) by simp only [List.append_assoc]]
    rw [List.drop_left' (by simp [hl]), List.take_left]

/-- A frame of a header that may be is read. -/
theorem parse_frame (S N B Q E F L I : Nat) (p : List UInt8) (hS : S < 2 ^ 64) (hI : I < 2 ^ 64) (hm : MayH N B Q E F L) (hp : p.length = B) : parseE (frameB S N B Q E F L I p) = 0 := by
  obtain ⟨⟨hN, hB, hQ, hE, hF, hEF⟩, hL0, hL⟩ := hm
  have hr := most_range hN hB
  have hL64 : (L : Int) ≤ 68718428160 := by omega
  obtain ⟨h0, h1, h2, h3, h4, h5, h6, h7, h8, h9, h10⟩ := frame_parts S N B Q E F L I p hS (by omega) (by omega) (by omega) (by omega) (by omega) (by omega) hI
  have hlen := frameB_length S N B Q E F L I p
  have hright : rightB (frameB S N B Q E F L I p) = true := MathA.right_sealed _
  have hhead : headE (frameB S N B Q E F L I p) = 0 := by
    unfold headE
    rw [if_neg (by rw [h0]; simp), if_neg (by rw [h1]; simp), h3, h4, h5, h6, h7, h8, asInt_small L (by omega)]
    exact mayHE_yes ⟨⟨hN, hB, hQ, hE, hF, hEF⟩, hL0, hL⟩
  unfold parseE
  rw [if_neg (by omega), if_neg (by rw [hhead]; simp), if_neg (by rw [h4]; omega), if_neg (by rw [hright]; simp)]

theorem split_at (l : List UInt8) (a s : Nat) : l.drop a = (l.drop a).take s ++ l.drop (a + s) := by
  conv => lhs; rw [← List.take_append_drop s (l.drop a)]
  rw [List.drop_drop]

theorem tl (l : List UInt8) (a s : Nat) (h : a + s ≤ l.length) : ((l.drop a).take s).length = s := by simp; omega

set_option maxHeartbeats 1000000 in
/-- What is read is the frame of what was read. -/
theorem frame_parse (l : List UInt8) (h : parseE l = 0) :
    42 ≤ l.length ∧ l.length = 42 + num l 15 2 ∧ MayH (num l 11 4) (num l 15 2) (num l 17 1) (num l 18 2) (num l 20 2) (num l 22 8) ∧ asInt (num l 22 8) = (num l 22 8 : Nat) ∧
      frameB (num l 3 8) (num l 11 4) (num l 15 2) (num l 17 1) (num l 18 2) (num l 20 2) (num l 22 8) (num l 30 8) ((l.drop 38).take (num l 15 2)) = l := by
  unfold parseE at h
  split at h
  · simp at h
  next h42 =>
    split at h
    next hh => exact absurd h hh
    next hh =>
      split at h
      · simp at h
      next hlen =>
        split at h
        · simp at h
        next hright =>
          have hh' : headE l = 0 := Classical.not_not.1 hh
          have hl : l.length = 42 + num l 15 2 := Classical.not_not.1 hlen
          have hr : rightB l = true := by simpa using hright
          unfold headE at hh'
          split at hh'
          · simp at hh'
          next hm =>
            split at hh'
            · simp at hh'
            next hv =>
              have hm' : num l 0 2 = 16716 := Classical.not_not.1 hm
              have hv' : num l 2 1 = 1 := Classical.not_not.1 hv
              have hmay : MayH (num l 11 4) (num l 15 2) (num l 17 1) (num l 18 2) (num l 20 2) (asInt (num l 22 8)) := by
                by_cases k : MayH (num l 11 4) (num l 15 2) (num l 17 1) (num l 18 2) (num l 20 2) (asInt (num l 22 8))
                · exact k
                · rw [mayHE_no k] at hh'; simp at hh'
              have hL : asInt (num l 22 8) = (num l 22 8 : Nat) := by
                by_cases k : num l 22 8 < 9223372036854775808
                · exact asInt_small _ k
                · have := asInt_neg _ k (num_lt l 22 8)
                  have := hmay.2.1
                  omega
              refine ⟨by omega, hl, by rw [hL] at hmay; exact hmay, hL, ?_⟩
              have e4 : l.length - 4 = 38 + num l 15 2 := by omega
              have hspec := right_spec l (by omega)
              rw [hr, e4] at hspec
              have hspec' := (beq_iff_eq.1 hspec.symm)
              have hhd : headB (num l 3 8) (num l 11 4) (num l 15 2) (num l 17 1) (num l 18 2) (num l 20 2) (num l 22 8) (num l 30 8) ++ (l.drop 38).take (num l 15 2) = l.take (38 + num l 15 2) := by
                unfold headB
                rw [be_num l 3 8 (by omega) (by omega), be_num l 11 4 (by omega) (by omega), be_num l 15 2 (by omega) (by omega), be_num l 17 1 (by omega) (by omega), be_num l 18 2 (by omega) (by omega), be_num l 20 2 (by omega) (by omega), be_num l 22 8 (by omega) (by omega), be_num l 30 8 (by omega) (by omega)]
                have b0 : be 16716 2 = (l.drop 0).take 2 := by rw [← hm']; exact be_num l 0 2 (by omega) (by omega)
                have b1 : be 1 1 = (l.drop 2).take 1 := by rw [← be_num l 2 1 (by omega) (by omega), hv']
                rw [b0, b1]
                generalize num l 15 2 = n at *
                have s0 := split_at l 0 2
                have s1 := split_at l 2 1
                have s2 := split_at l 3 8
                have s3 := split_at l 11 4
                have s4 := split_at l 15 2
                have s5 := split_at l 17 1
                have s6 := split_at l 18 2
                have s7 := split_at l 20 2
                have s8 := split_at l 22 8
                have s9 := split_at l 30 8
                have s10 := split_at l 38 n
                simp only [Nat.zero_add, Nat.reduceAdd] at s0 s1 s2 s3 s4 s5 s6 s7 s8 s9 s10
                have hfull : l.drop 0 = ((l.drop 0).take 2 ++ (l.drop 2).take 1 ++ (l.drop 3).take 8 ++ (l.drop 11).take 4 ++ (l.drop 15).take 2 ++ (l.drop 17).take 1 ++ (l.drop 18).take 2 ++ (l.drop 20).take 2 ++ (l.drop 22).take 8 ++ (l.drop 30).take 8 ++ (l.drop 38).take n) ++ l.drop (38 + n) := by
                  simp only [List.append_assoc]
                  rw [← s10, ← s9, ← s8, ← s7, ← s6, ← s5, ← s4, ← s3, ← s2, ← s1, ← s0]
                have hlen2 : ((l.drop 0).take 2 ++ (l.drop 2).take 1 ++ (l.drop 3).take 8 ++ (l.drop 11).take 4 ++ (l.drop 15).take 2 ++ (l.drop 17).take 1 ++ (l.drop 18).take 2 ++ (l.drop 20).take 2 ++ (l.drop 22).take 8 ++ (l.drop 30).take 8 ++ (l.drop 38).take n).length = 38 + n := by
                  simp only [List.length_append, tl l 0 2 (by omega), tl l 2 1 (by omega), tl l 3 8 (by omega), tl l 11 4 (by omega), tl l 15 2 (by omega), tl l 17 1 (by omega), tl l 18 2 (by omega), tl l 20 2 (by omega), tl l 22 8 (by omega), tl l 30 8 (by omega), tl l 38 n (by omega)]
                have hres := congrArg (List.take (38 + n)) hfull
                rw [List.take_left' hlen2, List.drop_zero] at hres
                exact hres.symm
              unfold frameB sealB
              rw [hhd]
              exact hspec'

end Go.Proofs.Ytecohgmllmddhaa
