/-
  segment: the document's Split and Join; same.
-/
import Derived.Test.YtbnedpjfgadkkaaSegB
import Derived.BigQuiet
namespace Go.Proofs.Ytbnedpjfgadkkaa
open Go.RowKit
set_option linter.unusedVariables false

/-- Bytes of one's own that grow. -/
def OwB (B : Nat) (w : World) (v : Value) (n : Nat) (l : List UInt8) : Prop := w.ownsRow B 5 1 v n (l.map bv)
theorem OwB.len {B : Nat} {w : World} {v : Value} {n : Nat} {l : List UInt8} (h : OwB B w v n l) : l.length = n := by
  have := h.1
  simpa using this
theorem OwB.bs {B : Nat} {w : World} {v : Value} {n : Nat} {l : List UInt8} (h : OwB B w v n l) : Bs w v l := by
  unfold Bs
  rw [h.len]
  exact owned_sl h
theorem OwB.lt {B : Nat} {w : World} {v : Value} {n : Nat} {l : List UInt8} (h : OwB B w v n l) : ∀ q, v.ownBlock = some q → B ≤ q ∧ q < w.heap.size := fun q hq => World.ownsRow.lt h q hq
theorem OwB.kept {B : Nat} {w w' : World} {v : Value} {n : Nat} {l : List UInt8} (h : OwB B w v n l) (hk : ∀ q, v.ownBlock = some q → w'.heap[q]? = w.heap[q]?) : OwB B w' v n l := owns_kept h hk
theorem OwB.below {B : Nat} {w w' : World} {v : Value} {n : Nat} {l : List UInt8} (h : OwB B w v n l) (hb : Below w.heap.size w w') : OwB B w' v n l := h.kept (fun q hq => hb.block q (h.lt q hq).2)
theorem OwB.alloc {B : Nat} {w : World} {v : Value} {n : Nat} {l : List UInt8} (h : OwB B w v n l) (o : Obj) : OwB B (w.alloc o) v n l := h.below (below_alloc _ _)
theorem OwB.new {B : Nat} (w : World) (h : B ≤ w.heap.size) : OwB B (w.alloc (.cells #[] 5)) (.slice (some ⟨w.heap.size, 0, none⟩) 0 0) 0 [] := World.ownsRow_lit w #[] 0 h (by simp [maxLen]) rfl

theorem wpList_addB (w : World) {ops : Array Oper} {rest : List Oper} {o : Oper} {a : Act} {Q : Exit → Act → World → Prop} (hgd : o.guard = none) (s x : Operand)
    (ho : o.op = .call { callee := .builtin .append, args := #[s, x], argTypes := #[40, 40] })
    (B : Nat) (v : Value) (n : Nat) (l : List UInt8) (hs : a.eval s = v) (hown : OwB B w v n l)
    (xv : Value) (m : Nat) (news : List UInt8) (hx : a.eval x = xv) (hsrc : Sl 1 w xv m (news.map bv))
    (hlen : n + m ≤ 1000000000) (hbase : B ≤ w.heap.size)
    (h : ∀ ao cap w', OwB B w' (.slice ao (n + m) cap) (n + m) (l ++ news) → w.grownBy w' v.ownBlock → n + m ≤ cap → cap ≤ maxLen → wpList Try.prog ops Q rest (a.put o.dst (.slice ao (n + m) cap)) w') : wpList Try.prog ops Q (o :: rest) a w := by
  obtain ⟨i, hi, hz, h1, h8⟩ := info_parts Try.infoByte
  refine wpList_app w hgd s x 40 ho B 5 i (.int .u8 0) 1 1 Try.underlying40 hi hz h1 h8 rfl (by decide) v n _ hs hown xv m _ hx hsrc (bv_oneCell _) (by unfold maxLen; omega) (by omega) hbase ?_
  intro ao cap w' h2 h3 h4 h5 h6 h7
  refine h ao cap w' ?_ h3 h6 h7
  unfold OwB
  rw [List.map_append]
  exact h2

theorem below_addB {B0 B : Nat} {w w1 w2 : World} {v : Value} {n : Nat} {l : List UInt8} (hb : Below B0 w w1) (ho : OwB B w1 v n l) (hB : B0 ≤ B) (hs : B0 ≤ w1.heap.size) (hg : w1.grownBy w2 v.ownBlock) : Below B0 w w2 :=
  hb.grown hg hs (fun k hk => Nat.le_trans hB (ho.lt k hk).1)

theorem bs_one (w : World) (x : UInt8) (e : TypeId) : Sl 1 (w.alloc (.cells #[bv x] e)) (.slice (some ⟨w.heap.size, 0, none⟩) 1 1) 1 ([x].map bv) := alloc_one _ _

theorem take_next (l : List UInt8) (k : Nat) (h : k < l.length) : l.take (k + 1) = l.take k ++ [l[k]] := List.take_succ_eq_append_getElem h

set_option maxRecDepth 100000 in
set_option maxHeartbeats 4000000 in
/-- The document's Join. -/
theorem rjoin_any (n : Nat) (pv : Value) (vs : List Value) (ls : List (List UInt8)) (w : World) (hp : Sl 1 w pv vs.length vs) (hps : Parts w vs ls) (hn : n ≤ 100000000) (hl : ls.length ≤ 1000000) :
    Calls Try.prog 23 #[.int .i64 (n : Int), pv] w fun e w' => ∃ m v, e = .returned v ∧ OwB w.heap.size w' v m (joinD n ls) ∧ Below w.heap.size w w' := by
  obtain ⟨N, hN⟩ : ∃ N, vs.length = N := ⟨_, rfl⟩
  have HV : Hid (vs.length = N) := hN
  have HL : Hid (ls.length = N) := by unfold Hid; rw [← hps.1]; exact hN
  have HP : Hid (Parts w vs ls) := hps
  have hN2 : N ≤ 1000000 := by rw [← HL.out]; exact hl
  rw [hN] at hp
  have HS : Hid (Sl 1 w pv N vs) := hp
  obtain ⟨-, ao, cap, rfl, h2, h3, -, -⟩ := hp
  unfold maxLen at h3
  clear hps hN hl
  go_enter Try.func23, Try.ntmps23
  go_wp2
  go_loopw [5, 6] (fun ov iv wr => ∃ (i m c : Nat) (a : Option Addr), i ≤ N ∧ iv = .int .i64 i ∧ ov = .slice a m c ∧ m ≤ n ∧ m ≤ c ∧ c ≤ 9223372036854775807 ∧ Hid (OwB w.heap.size wr (.slice a m c) m (joinD n (ls.take i))) ∧ Hid (Below w.heap.size w wr)) (fun _ iv _ => N - (intOf iv).toNat)
  case atStart => exact ⟨0, 0, 0, _, by omega, rfl, rfl, by omega, by omega, by omega, by unfold Hid; simpa [joinD] using OwB.new w (Nat.le_refl _), below_alloc _ _⟩
  case round =>
    obtain ⟨i, m, c, a, hi, rfl, rfl, hmn, hmc, hc, O, BB⟩ := hrel
    by_cases hlt : i < N
    · have hiv : i < vs.length := by rw [HV.out]; exact hlt
      have hil : i < ls.length := by rw [HL.out]; exact hlt
      obtain ⟨-, ao', cap', hv0, -, -, -, h5⟩ := HS.out
      injection hv0 with e1 e2 e3
      subst e1
      obtain ⟨b0, o0, rfl, hc0⟩ : ∃ b off, ao = some ⟨b, off, none⟩ ∧ ∀ j u, vs[j]? = some u → w.cell? ⟨b, off + j, none⟩ = some u := by
        rcases h5 with h0 | h0
        · omega
        · exact h0
      have ck0 := hc0 i vs[i] (List.getElem?_eq_getElem hiv)
      have HBi : Hid (Bs w vs[i] ls[i]) := HP.out.2 i _ _ (List.getElem?_eq_getElem hiv) (List.getElem?_eq_getElem hil)
      obtain ⟨-, ai, ci, hvi, g2, g3, -, -⟩ := HBi.out
      unfold maxLen at g3
      rw [hvi] at ck0 HBi
      have CK : Hid (w.cell? ⟨b0, o0 + i, none⟩ = some (.slice ai ls[i].length ci)) := ck0
      have HNx : Hid ((ls.take (i + 1)).flatten = (ls.take i).flatten ++ ls[i]) := flat_next ls i hil
      clear hc0 ck0 hvi e2 e3
      generalize ls[i] = b at *
      obtain ⟨x, hx⟩ : ∃ x, (ls.take i).flatten = x := ⟨_, rfl⟩
      have HX : Hid (joinD n (ls.take i) = x.take n) := by unfold Hid joinD; rw [hx]
      rw [hx] at HNx
      rw [HX.out] at O
      obtain ⟨B, hB⟩ : ∃ B, b.length = B := ⟨_, rfl⟩
      rw [hB] at CK HBi g2
      have HLb : Hid (b.length = B) := hB
      have HM : Hid (m = min n x.length) := by have := O.out.len; rw [List.length_take] at this; unfold Hid; omega
      clear hx hB HX
      have ck := (BB.out.cell (cell_block_lt CK.out)).trans CK.out
      go_wp2
      clear ck
      obtain ⟨w9, hw9⟩ : ∃ x, x = wr := ⟨_, rfl⟩
      subst hw9
      go_loopw [5, 7] (fun ov kv wr => ∃ (k m c : Nat) (a : Option Addr), k ≤ B ∧ kv = .int .i64 k ∧ ov = .slice a m c ∧ m ≤ n ∧ m ≤ c ∧ c ≤ 9223372036854775807 ∧ Hid (OwB w.heap.size wr (.slice a m c) m ((x ++ b.take k).take n)) ∧ Hid (Below w.heap.size w wr)) (fun _ kv _ => B - (intOf kv).toNat)
      case atStart => exact ⟨0, m, c, a, by omega, rfl, rfl, hmn, hmc, hc, by unfold Hid; simpa using O.out, BB⟩
      case round =>
        obtain ⟨k, m2, c2, a2, hk, rfl, rfl, hmn2, hmc2, hc2, O2, BB2⟩ := hrel
        clear O BB HM
        have ck := (BB2.out.cell (cell_block_lt CK.out)).trans CK.out
        have HM2 : Hid (m2 = min n (x.length + k)) := by
          have := O2.out.len
          rw [List.length_take, List.length_append, List.length_take, HLb.out] at this
          unfold Hid
          omega
        by_cases hkB : k < B
        · by_cases hmm : m2 < n
          · have hkb : k < b.length := by rw [HLb.out]; exact hkB
            obtain ⟨-, ai', ci', hvb, -, -, -, hcb⟩ := HBi.out
            injection hvb with e1 e2 e3
            subst e1
            obtain ⟨b1, o1, rfl, hc1⟩ : ∃ bb off, ai = some ⟨bb, off, none⟩ ∧ ∀ j u, (b.map bv)[j]? = some u → w.cell? ⟨bb, off + j, none⟩ = some u := by
              rcases hcb with h0 | h0
              · omega
              · exact h0
            have cy0 := hc1 k _ (map_bv_at b k hkb)
            have cy := (BB2.out.cell (cell_block_lt cy0)).trans cy0
            have HE : Hid ((x ++ b.take (k + 1)).take n = (x ++ b.take k).take n ++ [b[k]]) := by
              unfold Hid
              rw [take_next b k hkb, ← List.append_assoc]
              have h1 := HM2.out
              have h2 : (x ++ b.take k).length = x.length + k := by rw [List.length_append, List.length_take]; omega
              rw [List.take_of_length_le (l := x ++ b.take k) (by omega), List.take_of_length_le (by rw [List.length_append, h2]; simp; omega)]
            have HV1 : Hid (∀ W : World, Sl 1 (W.alloc (.cells #[.int .u8 (b[k].toNat : Int)] 5)) (.slice (some ⟨W.heap.size, 0, none⟩) 1 1) 1 ([b[k]].map bv)) := fun W => bs_one W b[k] _
            clear hc1 cy0 e2 e3
            generalize b[k] = y at *
            go_wp2_with (at_builtin; refine wpList_addB _ rfl (.tmp 30) (.tmp 38) rfl w.heap.size (.slice a2 m2 c2) m2 _ rfl (O2.out.alloc _) _ 1 [y] rfl (HV1.out _) (by omega) (by have := BB2.out.size; simp; omega) ?_; intro a3 c3 w3 ho3 hg3 hnc3 hcm3)
            have O3 : Hid (OwB w.heap.size w3 (.slice a3 (m2 + 1) c3) (m2 + 1) ((x ++ b.take (k + 1)).take n)) := by unfold Hid; rw [HE.out]; exact ho3
            have B3 : Hid (Below w.heap.size w w3) := below_addB (BB2.out.alloc BB2.out.size _) (O2.out.alloc _) (Nat.le_refl _) (by have := BB2.out.size; simp; omega) hg3
            unfold maxLen at hcm3
            clear ho3 hg3 HV1 HE O2 BB2 ck cy HM2
            go_roundw
            case rel => exact ⟨k + 1, m2 + 1, c3, a3, by omega, by go_num, rfl, by omega, hnc3, hcm3, O3, B3⟩
            case measure => simp [intOf]; omega
          · have hnl : ¬ (m2 : Int) < (n : Int) := by omega
            have O3 : Hid (OwB w.heap.size wr (.slice a2 m2 c2) m2 (joinD n (ls.take (i + 1)))) := by
              unfold Hid joinD
              rw [HNx.out]
              have h1 := HM2.out
              have h2 := O2.out
              have e : (x ++ b).take n = (x ++ b.take k).take n := by
                conv => lhs; rw [← List.take_append_drop k b, ← List.append_assoc]
                rw [List.take_append_of_le_length]
                rw [List.length_append, List.length_take, HLb.out]
                omega
              rw [e]
              exact h2
            clear O2 HM2
            go_wp2
            go_roundw
            case rel => exact ⟨i + 1, m2, c2, a2, by omega, by go_num, rfl, hmn2, hmc2, hc2, O3, BB2⟩
            case measure => simp [intOf]; omega
        · have hkB' : ¬ (k : Int) < (B : Int) := by omega
          have O3 : Hid (OwB w.heap.size wr (.slice a2 m2 c2) m2 (joinD n (ls.take (i + 1)))) := by
            unfold Hid joinD
            rw [HNx.out]
            have h2 := O2.out
            rw [List.take_of_length_le (l := b) (by rw [HLb.out]; omega)] at h2
            exact h2
          clear O2 HM2
          go_wp2
          go_roundw
          case rel => exact ⟨i + 1, m2, c2, a2, by omega, by go_num, rfl, hmn2, hmc2, hc2, O3, BB2⟩
          case measure => simp [intOf]; omega
    · have R : Hid (OwB w.heap.size wr (.slice a m c) m (joinD n ls) ∧ Below w.heap.size w wr) := by
        have := O.out
        rw [List.take_of_length_le (by rw [HL.out]; omega)] at this
        exact ⟨this, BB.out⟩
      clear O BB
      go_wp2
      go_ret
      exact ⟨m, _, rfl, R.out⟩

end Go.Proofs.Ytbnedpjfgadkkaa
