/-
  The walk of (*crc.Table).Sum: over a table, and any parts.
-/
import Derived.Test.YtecohgmllmddhaaCTab
import Derived.Test.YtecohgmllmddhaaCMathB
namespace Go.Proofs.Ytecohgmllmddhaa
open Go.RowKit
set_option linter.unusedVariables false

/-- The table lies in block g. -/
def IsTab (w : World) (g : Nat) : Prop := ∀ i, i < 256 → w.cell? ⟨g, i, none⟩ = some (.int .u32 (rem8 i))

theorem upd_index (t : BitVec 32) (y : UInt8) : ∃ x : Nat, bits BinOp.xor IntKind.u8 ((t.toNat : Int) / 16777216) (y.toNat : Int) = (x : Int) ∧ x < 256 ∧
    bits BinOp.xor IntKind.u32 ((t.toNat : Int) * 256 % 4294967296) (rem8 x : Int) = ((MathA.upd t y).toNat : Int) := by
  have ht := t.isLt
  have hy := y.toNat_lt
  have hx : (t.toNat / 16777216) ^^^ y.toNat < 2 ^ 8 := Nat.xor_lt_two_pow (by omega) (by omega)
  refine ⟨(t.toNat / 16777216) ^^^ y.toNat, ?_, by omega, ?_⟩
  · have e := u8_xor_nat (t.toNat / 16777216) y.toNat (by omega) (by omega)
    have e2 : (((t.toNat / 16777216 : Nat) : Int)) = (t.toNat : Int) / 16777216 := by omega
    rw [e2] at e
    exact e
  · have hr : rem8 ((t.toNat / 16777216) ^^^ y.toNat) < 4294967296 := (MathA.Ln 8 _).isLt
    have e := u32_xor_nat (t.toNat * 256 % 4294967296) (rem8 ((t.toNat / 16777216) ^^^ y.toNat)) (by omega) hr
    have e2 : (((t.toNat * 256 % 4294967296 : Nat) : Int)) = (t.toNat : Int) * 256 % 4294967296 := by omega
    rw [e2] at e
    rw [e]
    exact congrArg Int.ofNat (MathA.upd_nat t y)

theorem upd_next {p : List UInt8} {j : Nat} {s t : BitVec 32} {y : UInt8} (hj : j < p.length) (hy : p[j] = y) (h : t = (p.take j).foldl MathA.upd s) : MathA.upd t y = (p.take (j + 1)).foldl MathA.upd s := by
  rw [List.take_succ_eq_append_getElem hj, List.foldl_append, ← h, ← hy]
  rfl

theorem part_none {ps : List (List UInt8)} {k : Nat} {s : BitVec 32} (hk : k < ps.length) (h0 : ps[k].length = 0) (h : s = MathA.crc (ps.take k).flatten) : s = MathA.crc (ps.take (k + 1)).flatten := by
  rw [List.take_succ_eq_append_getElem hk, List.flatten_append, List.eq_nil_of_length_eq_zero h0]
  simpa using h

theorem part_next {ps : List (List UInt8)} {k j : Nat} {s t : BitVec 32} (hk : k < ps.length) (hj : ps[k].length ≤ j) (h : s = MathA.crc (ps.take k).flatten) (h2 : t = (ps[k].take j).foldl MathA.upd s) : t = MathA.crc (ps.take (k + 1)).flatten := by
  rw [List.take_succ_eq_append_getElem hk, List.flatten_append, h2, List.take_of_length_le hj, h]
  simp [MathA.crc, List.foldl_append]

theorem not_nat (s : BitVec 32) : bits BinOp.xor IntKind.u32 IntKind.u32.max (s.toNat : Int) = ((4294967295 - s.toNat : Nat) : Int) := by
  have e := u32_xor_nat 4294967295 s.toNat (by omega) s.isLt
  have e2 : (4294967295 ^^^ s.toNat) = 4294967295 - s.toNat := by
    have h : (BitVec.allOnes 32 ^^^ s).toNat = (~~~s).toNat := by rw [BitVec.allOnes_xor]
    rw [BitVec.toNat_xor, BitVec.toNat_not, BitVec.toNat_allOnes] at h
    exact h
  rw [e2] at e
  exact e

set_option maxRecDepth 100000 in
set_option maxHeartbeats 1000000 in
theorem sum_some (g b off cap n : Nat) (vs : List Value) (ps : List (List UInt8)) (w : World)
    (hn : vs.length = n) (hnc : n ≤ cap) (hcm : cap ≤ maxLen) (hT : IsTab w g) (hps : Parts w vs ps)
    (hcell : ∀ j u, vs[j]? = some u → w.cell? ⟨b, off + j, none⟩ = some u) :
    Calls Try.prog 61 #[.pointer (some ⟨g, 0, none⟩), .slice (some ⟨b, off, none⟩) n cap] w fun e w' => e = .returned (.int .u32 (MathA.sum ps.flatten)) ∧ w' = w := by
  unfold maxLen at hcm
  obtain ⟨hlen, hpart⟩ := hps
  go_enter Try.func61, Try.ntmps61
  go_wp2
  go_loop [5, 12] (fun r i => ∃ (k : Nat) (s : BitVec 32), k ≤ n ∧ i = .int .i64 k ∧ r = .int .u32 s.toNat ∧ s = MathA.crc (ps.take k).flatten) (fun _ i => n - (intOf i).toNat)
  case atStart => exact ⟨0, 4294967295#32, by omega, rfl, rfl, rfl⟩
  case round =>
    obtain ⟨k, s, hk, rfl, rfl, he⟩ := hrel
    have H : Hid (s = MathA.crc (ps.take k).flatten) := he
    clear he
    have hs := s.isLt
    by_cases hlt : k < n
    · have hkp : k < ps.length := by omega
      have hkv : k < vs.length := by omega
      have hp := hpart k vs[k] ps[k] (List.getElem?_eq_getElem hkv) (List.getElem?_eq_getElem hkp)
      have hck := hcell k vs[k] (List.getElem?_eq_getElem hkv)
      obtain ⟨_, ao, pc, hv, hp2, hp3, hp4, hp5⟩ := hp
      unfold maxLen at hp3
      rw [hv] at hck
      generalize hpl : ps[k].length = pl at *
      have Hpl : Hid (ps[k].length = pl) := hpl
      clear hpl hv hpart hcell hlen
      rcases hp5 with h0 | ⟨pb, po, rfl, hpc⟩
      · subst h0
        go_wp2
        go_loop [5, 18] (fun r i => i = .int .i64 0 ∧ r = .int .u32 s.toNat) (fun _ _ => 0)
        case atStart => exact ⟨rfl, rfl⟩
        case round =>
          obtain ⟨rfl, rfl⟩ := hrel
          go_wp2
          go_round
          case rel => exact ⟨k + 1, s, by omega, by go_num, rfl, part_none hkp Hpl.out H.out⟩
          case measure => simp [intOf]; omega
      · go_wp2
        go_loop [5, 18] (fun r i => ∃ (j : Nat) (t : BitVec 32), j ≤ pl ∧ i = .int .i64 j ∧ r = .int .u32 t.toNat ∧ t = (ps[k].take j).foldl MathA.upd s) (fun _ i => pl - (intOf i).toNat)
        case atStart => exact ⟨0, s, by omega, rfl, rfl, rfl⟩
        case round =>
          obtain ⟨j, t, hj, rfl, rfl, he⟩ := hrel
          have H2 : Hid (t = (ps[k].take j).foldl MathA.upd s) := he
          clear he
          have ht := t.isLt
          by_cases hjl : j < pl
          · have hjp : j < ps[k].length := by rw [Hpl.out]; exact hjl
            have hcb := hpc j _ (map_bv_at ps[k] j hjp)
            generalize hy : ps[k][j] = y at *
            have Hy : Hid (ps[k][j] = y) := hy
            clear hy hpc
            have hyl := y.toNat_lt
            obtain ⟨x, hx, hx256, hxu⟩ := upd_index t y
            have HU : Hid (bits BinOp.xor IntKind.u32 ((t.toNat : Int) * 256 % 4294967296) (rem8 x : Int) = ((MathA.upd t y).toNat : Int)) := hxu
            have hcx := hT x hx256
            clear hxu
            go_wp2
            go_round
            case rel => exact ⟨j + 1, MathA.upd t y, by omega, by go_num, int_val HU.out, upd_next hjp Hy.out H2.out⟩
            case measure => simp [intOf]; omega
          · go_wp2
            go_round
            case rel => exact ⟨k + 1, t, by omega, by go_num, rfl, part_next hkp (by rw [Hpl.out]; omega) H.out H2.out⟩
            case measure => simp [intOf]; omega
    · go_wp2
      go_ret
      exact ⟨ret_int (by rw [not_nat, H.out, List.take_of_length_le (by omega)]; rfl), rfl⟩

set_option maxRecDepth 100000 in
set_option maxHeartbeats 1000000 in
theorem sum_none (g : Nat) (ao : Option Addr) (cap : Nat) (w : World) :
    Calls Try.prog 61 #[.pointer (some ⟨g, 0, none⟩), .slice ao 0 cap] w fun e w' => e = .returned (.int .u32 (MathA.sum [])) ∧ w' = w := by
  go_enter Try.func61, Try.ntmps61
  go_wp2
  go_loop [5, 12] (fun r i => i = .int .i64 0 ∧ r = .int .u32 (4294967295#32).toNat) (fun _ _ => 0)
  case atStart => exact ⟨rfl, rfl⟩
  case round =>
    obtain ⟨rfl, rfl⟩ := hrel
    go_wp2
    go_ret
    exact ⟨ret_int (not_nat 4294967295#32), rfl⟩

/-- SUM: of any parts, over the table: the sum of all of their bytes; nothing is turned. -/
theorem sum_any (g : Nat) (pv : Value) (vs : List Value) (ps : List (List UInt8)) (w : World) (hT : IsTab w g) (hp : Sl 1 w pv vs.length vs) (hps : Parts w vs ps) :
    Calls Try.prog 61 #[.pointer (some ⟨g, 0, none⟩), pv] w fun e w' => e = .returned (.int .u32 (MathA.sum ps.flatten)) ∧ w' = w := by
  obtain ⟨_, ao, cap, hv, h2, h3, _, h5⟩ := hp
  subst hv
  rcases h5 with h0 | ⟨b, off, rfl, hc⟩
  · have hps0 : ps = [] := List.eq_nil_of_length_eq_zero (by rw [← hps.1]; exact h0)
    subst hps0
    rw [h0]
    exact sum_none g ao cap w
  · exact sum_some g b off cap vs.length vs ps w rfl h2 h3 hT hps hc

end Go.Proofs.Ytecohgmllmddhaa
