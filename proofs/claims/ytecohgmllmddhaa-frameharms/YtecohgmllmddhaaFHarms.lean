/-
  The walk of the statement FrameHarms.
-/
import Derived.Test.YtecohgmllmddhaaFrQ
import Derived.Test.YtecohgmllmddhaaLFade
namespace Go.Proofs.Ytecohgmllmddhaa
open Go.RowKit
set_option linter.unusedVariables false

def Four (W : World) (b : Nat) (A M C : Int) (v : Value) : Prop := W.cell? ⟨b, 0, none⟩ = some (.int .u16 A) ∧ W.cell? ⟨b, 1, none⟩ = some (.int .u32 M) ∧ W.cell? ⟨b, 2, none⟩ = some (.int .u8 C) ∧ W.cell? ⟨b, 3, none⟩ = some v

theorem Four.below {W W' : World} {b : Nat} {A M C : Int} {v : Value} (h : Four W b A M C v) (hb : Below W.heap.size W W') : Four W' b A M C v := by
  obtain ⟨h0, h1, h2, h3⟩ := h
  exact ⟨(hb.cell (cell_block_lt h0)).trans h0, (hb.cell (cell_block_lt h1)).trans h1, (hb.cell (cell_block_lt h2)).trans h2, (hb.cell (cell_block_lt h3)).trans h3⟩

theorem four_new (w : World) (t : TypeId) (b : Nat) (hb : b = w.heap.size) (A M C : Int) (v : Value) : Four (w.alloc (.cells #[.int .u16 A, .int .u32 M, .int .u8 C, v] t)) b A M C v := by
  subst hb
  refine ⟨?_, ?_, ?_, ?_⟩ <;> simp

theorem ok_nat {k : IntKind} {n : Int} (hk : k = .u16 ∨ k = .u32 ∨ k = .u8) (h : Ok k n) : ∃ m : Nat, n = m ∧ m < 4294967296 := by
  have h1 : 0 ≤ n ∧ n < 4294967296 := by
    rcases hk with rfl | rfl | rfl <;> simp [Ok, Lit.wf, IntKind.min, IntKind.max, IntKind.bits, IntKind.signed] at h <;> omega
  exact ⟨n.toNat, by omega, by omega⟩

theorem ok_byte {n : Int} (h : Ok .u8 n) : ∃ m : Nat, n = m ∧ m < 256 := by
  have h1 : 0 ≤ n ∧ n < 256 := by
    simp [Ok, Lit.wf, IntKind.min, IntKind.max, IntKind.bits, IntKind.signed] at h; omega
  exact ⟨n.toNat, by omega, by omega⟩

theorem ok_16 {n : Int} (h : Ok .u16 n) : ∃ m : Nat, n = m ∧ m < 65536 := by
  have h1 : 0 ≤ n ∧ n < 65536 := by
    simp [Ok, Lit.wf, IntKind.min, IntKind.max, IntKind.bits, IntKind.signed] at h; omega
  exact ⟨n.toNat, by omega, by omega⟩

theorem parse_ints (c g : Nat) (v : Value) (l : List UInt8) (w : World) (hco : IsCo w c g) (hl : Bs w v l) :
    Calls Try.prog 17 #[.pointer (some ⟨c, 0, none⟩), v] w fun e w' => ∃ (v0 v1 v2 v3 v4 v5 v6 v7 : Int) (a8 : Option Addr) (m8 k8 : Nat), e = .returned (.tuple #[.agg #[.int .u64 v0, .int .i64 v1, .int .i64 v2, .int .i64 v3, .int .i64 v4, .int .i64 v5, .int .i64 v6, .int .u64 v7, .slice a8 m8 k8], .int .i64 (parseE l)]) ∧ Below w.heap.size w w' := by
  by_cases h : parseE l = 0
  · obtain ⟨z0, z1, z2, z3, z4, z5, z6, z7, hz, -⟩ := parsed_ok l h
    refine (parse_ok c g v l w hco hl h).mono ?_
    rintro e w' ⟨q, rfl, -, -, hb⟩
    exact ⟨_, _, _, _, _, _, _, _, _, _, _, by rw [h, hz q], hb⟩
  · refine (parse_no c g v l w hco hl h).mono ?_
    rintro e w' ⟨rfl, hb⟩
    exact ⟨_, _, _, _, _, _, _, _, _, _, _, rfl, hb⟩

def IsTup (E : Int) : Value → World → Prop := fun v _ => ∃ (v0 v1 v2 v3 v4 v5 v6 v7 : Int) (a8 : Option Addr) (m8 k8 : Nat), v = .tuple #[.agg #[.int .u64 v0, .int .i64 v1, .int .i64 v2, .int .i64 v3, .int .i64 v4, .int .i64 v5, .int .i64 v6, .int .u64 v7, .slice a8 m8 k8], .int .i64 E]
def IsAgg9 : Value → World → Prop := fun v _ => ∃ (v0 v1 v2 v3 v4 v5 v6 v7 : Int) (a8 : Option Addr) (m8 k8 : Nat), v = .agg #[.int .u64 v0, .int .i64 v1, .int .i64 v2, .int .i64 v3, .int .i64 v4, .int .i64 v5, .int .i64 v6, .int .u64 v7, .slice a8 m8 k8]

theorem boxp_cells {W : World} {b : Nat} (h : W.heap[b]? = some (.cells #[.int .u64 0, .int .i64 0, .int .i64 0, .int .i64 0, .int .i64 0, .int .i64 0, .int .i64 0, .int .u64 0, .slice none 0 0] 29)) :
    W.cell? ⟨b, 0, none⟩ = some (.int .u64 0) ∧ W.cell? ⟨b, 1, none⟩ = some (.int .i64 0) ∧ W.cell? ⟨b, 2, none⟩ = some (.int .i64 0) ∧ W.cell? ⟨b, 3, none⟩ = some (.int .i64 0) ∧ W.cell? ⟨b, 4, none⟩ = some (.int .i64 0) ∧ W.cell? ⟨b, 5, none⟩ = some (.int .i64 0) ∧ W.cell? ⟨b, 6, none⟩ = some (.int .i64 0) ∧ W.cell? ⟨b, 7, none⟩ = some (.int .u64 0) ∧ W.cell? ⟨b, 8, none⟩ = some (.slice none 0 0) := by
  simp [World.cell?, h]
theorem boxp_free {W : World} {b : Nat} (h : W.heap[b]? = some (.cells #[.int .u64 0, .int .i64 0, .int .i64 0, .int .i64 0, .int .i64 0, .int .i64 0, .int .i64 0, .int .u64 0, .slice none 0 0] 29)) :
    W.frozen? ⟨b, 0, none⟩ = false ∧ W.frozen? ⟨b, 1, none⟩ = false ∧ W.frozen? ⟨b, 2, none⟩ = false ∧ W.frozen? ⟨b, 3, none⟩ = false ∧ W.frozen? ⟨b, 4, none⟩ = false ∧ W.frozen? ⟨b, 5, none⟩ = false ∧ W.frozen? ⟨b, 6, none⟩ = false ∧ W.frozen? ⟨b, 7, none⟩ = false ∧ W.frozen? ⟨b, 8, none⟩ = false := by
  simp [World.frozen?, h]

theorem alloc_block (w : World) (o : Obj) : (w.alloc o).heap[w.heap.size]? = some o := by
  show (w.heap.push o)[w.heap.size]? = _
  simp

theorem own_parts {B q k : Nat} {l : List UInt8} {W : World} (h : IsOwn B l (.slice (some ⟨q, 0, none⟩) l.length k) W) : ∃ pz, Hid (B ≤ q ∧ k = l.length + pz.length ∧ k ≤ maxLen) ∧ Hid (Blk W q [] l pz) := by
  obtain ⟨qz, cz, pz, ez, hqz, hbz, hlz, hcz, hcc⟩ := h
  obtain ⟨rfl, rfl⟩ : q = qz ∧ k = cz := by simpa using ez
  exact ⟨pz, ⟨hqz, hcc, hcz⟩, hbz⟩

theorem own_max {B q k a b : Nat} (h : Hid (B ≤ q ∧ k = a + b ∧ k ≤ maxLen)) : a + b ≤ maxLen := by
  obtain ⟨-, h1, h2⟩ := h.out
  omega

theorem app_below {p q n : Nat} {w8 W W2 : World} {post' post : List Value} (h : Below w8.heap.size w8 W) (hp : w8.heap.size ≤ p)
    (hor : (q = p ∧ n ≤ post.length ∧ post' = post.drop n ∧ W.grownBy W2 (some p) ∧ W2.heap.size = W.heap.size) ∨ (q = W.heap.size ∧ post.length < n ∧ Below W.heap.size W W2 ∧ W2.heap.size = W.heap.size + 1)) : Below w8.heap.size w8 W2 := by
  rcases hor with ⟨-, -, -, hg, -⟩ | ⟨-, -, hb, -⟩
  · exact below_grown h hg h.size hp
  · exact h.trans (hb.mono h.size)

theorem app_bs {W : World} {q k : Nat} {l b : List UInt8} {post : List Value} (h : Blk W q [] (l ++ b) post) (hk : k = l.length + b.length + post.length) (hm : k ≤ maxLen) : Bs W (.slice (some ⟨q, 0, none⟩) (l.length + b.length) k) (l ++ b) :=
  h.bs0 _ _ (by simp) (by omega) hm

set_option maxRecDepth 100000 in
set_option maxHeartbeats 4000000 in
theorem frameHarms_walk (S N B Q E F L I : Int) (pv : Value) (p : List UInt8) (A M C : Int) (hv : Value) (hl : List UInt8) (w : World) (hw : Bs w pv p ∧ Ok .u64 S ∧ Ok .i64 N ∧ Ok .i64 B ∧ Ok .i64 Q ∧ Ok .i64 E ∧ Ok .i64 F ∧ Ok .i64 L ∧ Ok .u64 I) (hh : Bs w hv hl ∧ Ok .u16 A ∧ Ok .u32 M ∧ Ok .u8 C) :
    Calls Try.prog 3 #[.agg #[.int .u64 S, .int .i64 N, .int .i64 B, .int .i64 Q, .int .i64 E, .int .i64 F, .int .i64 L, .int .u64 I, pv], .agg #[.int .u16 A, .int .u32 M, .int .u8 C, hv]] w fun e w' => e = .returned (.bool true) ∧ Below w.heap.size w w' := by
  obtain ⟨hp, hS, -, -, -, -, -, -, hI⟩ := hw
  obtain ⟨hmo, hA, hM, hC⟩ := hh
  obtain ⟨An, rfl, hAn⟩ := ok_16 hA
  obtain ⟨Mn, rfl, hMn⟩ := ok_nat (.inr (.inl rfl)) hM
  obtain ⟨Cn, rfl, hCn⟩ := ok_byte hC
  have HMN : Hid (Mn < 4294967296) := hMn
  clear hA hM hC hMn
  have HP : Hid (Bs w pv p) := hp
  have HSI : Hid (Ok .u64 S ∧ Ok .u64 I) := ⟨hS, hI⟩
  have HMO : Hid (Bs w hv hl) := hmo
  obtain ⟨-, pa, pk, rfl, -, -, -, -⟩ := hp
  obtain ⟨-, ha, hk, rfl, -, -, -, -⟩ := hmo
  obtain ⟨n, hn⟩ : ∃ n, p.length = n := ⟨_, rfl⟩
  rw [hn] at HP ⊢
  have HPN : Hid (p.length = n) := hn
  clear hS hI hn
  go_enter Try.func3, Try.ntmps3
  go_wp2_with fail
  refine (speaks6_any _).mono ?_
  rintro e w1 ⟨rfl, hb1⟩
  have X1 : Hid (Below w.heap.size w w1) := below_mid (below_mid (below_alloc _ _) (below_alloc _ _)) hb1
  have N1 : Hid (Nine w1 w.heap.size S N B Q E F L I (.slice pa n pk)) := ((nine_new w _ S N B Q E F L I _).below (below_alloc _ _)).below hb1
  have H1 : Hid (Four w1 (w.heap.size + 1) An Mn Cn (.slice ha hl.length hk)) := (four_new _ _ _ (by simp) An Mn Cn _).below hb1
  clear hb1
  obtain ⟨b0, hb0⟩ : ∃ b, w.heap.size = b := ⟨_, rfl⟩
  rw [hb0] at N1 H1
  obtain ⟨⟨c0, c1, c2, c3, c4, c5, c6, c7⟩, c8⟩ := N1.out
  obtain ⟨d0, d1, d2, d3⟩ := H1.out
  by_cases h300 : 300 < n
  · have h300I : (300 : Int) < (n : Int) := by omega
    go_wp2
    go_ret
    exact ⟨rfl, X1.out⟩
  have h300I : ¬ (300 : Int) < (n : Int) := by omega
  by_cases h100 : 100 < hl.length
  · have h100I : (100 : Int) < (hl.length : Int) := by omega
    go_wp2
    go_ret
    exact ⟨rfl, X1.out⟩
  have h100I : ¬ (100 : Int) < (hl.length : Int) := by omega
  by_cases hm : MayH N B Q E F L
  · by_cases hlen : (n : Int) = B
    · obtain ⟨n1, n2, n3, n4, n5, n6, rfl, rfl, rfl, rfl, rfl, rfl⟩ := may_nats hm
      obtain ⟨n0, rfl, hn0⟩ := ok_u64 HSI.out.1
      obtain ⟨n7, rfl, hn7⟩ := ok_u64 HSI.out.2
      have hnn : n = n2 := by omega
      subst hnn
      have HM : Hid (MayH n1 n n3 n4 n5 n6) := hm
      have HN : Hid (n0 < 2 ^ 64 ∧ n7 < 2 ^ 64) := ⟨hn0, hn7⟩
      clear hlen hn0 hn7 HSI hm
      go_wp2_with fail
      refine (renc_yes n0 n1 n n3 n4 n5 n6 n7 pa pk p w1 HM.out HN.out.1 HN.out.2 (HP.out.below X1.out) HPN.out (by omega)).mono ?_
      rintro e w2 ⟨xa, xc, rfl, hbx, hb2⟩
      have X2 : Hid (Below w.heap.size w w2) := below_mid X1.out hb2
      have H2 : Hid (Four w2 (b0 + 1) An Mn Cn (.slice ha hl.length hk)) := H1.out.below hb2
      have L2 : Hid (Bs w2 (.slice xa (42 + n) xc) (frameB n0 n1 n n3 n4 n5 n6 n7 p)) := hbx
      have HFL : Hid ((frameB n0 n1 n n3 n4 n5 n6 n7 p).length = 42 + n) := by unfold Hid; rw [frameB_length, HPN.out]
      have HPF : Hid (parseE (frameB n0 n1 n n3 n4 n5 n6 n7 p) = 0) := parse_frame n0 n1 n n3 n4 n5 n6 n7 p HN.out.1 HN.out.2 HM.out HPN.out
      have HTU : Hid (∀ F M, (parseE (MathA.turns (frameB n0 n1 n n3 n4 n5 n6 n7 p) F M 32) = 0) ↔ MathA.turns (frameB n0 n1 n n3 n4 n5 n6 n7 p) F M 32 = frameB n0 n1 n n3 n4 n5 n6 n7 p) := fun F M => parse_turned _ F M HPF.out
      clear hbx hb2 X1 N1 H1 c0 c1 c2 c3 c4 c5 c6 c7 c8 d0 d1 d2 d3 HM HN
      generalize frameB n0 n1 n n3 n4 n5 n6 n7 p = l at *
      rw [← HFL.out] at L2 ⊢
      have hl42 : 42 ≤ l.length := by rw [HFL.out]; omega
      have hl342 : l.length ≤ 342 := by rw [HFL.out]; omega
      clear HFL
      go_wp2_with fail
      refine (fnew_any _).mono ?_
      rintro e w3 ⟨c, g, rfl, hco, hb3, -, -, -⟩
      have C3 : Hid (IsCo w3 c g) := hco
      have X3 : Hid (Below w.heap.size w w3) := below_mid X2.out hb3
      have LB : Hid (Bs w3 (.slice xa l.length xc) l) := L2.out.below hb3
      have H3 : Hid (Four w3 (b0 + 1) An Mn Cn (.slice ha hl.length hk)) := H2.out.below hb3
      have MO : Hid (Bs w3 (.slice ha hl.length hk) hl) := HMO.out.below X3.out
      clear hco hb3 X2 L2 H2 HMO
      go_upto_region 10 with (at_builtin; refine wpList_copy w3 rfl (.tmp 40) (.tmp 41) rfl l _ _ rfl rfl rfl LB.out (by omega) ?_; intro q4 c4 w4 hown hbel; obtain ⟨qx, cx, px, e4, hqx, hbx, hlx, hcm, hcx⟩ := hown; subst hcx; rw [e4]; clear e4)
      have Y4 : Hid (Below w3.heap.size w3 w4) := hbel
      have B4 : Hid (Blk w4 qx [] l px) := hbx
      have HQX : Hid (w3.heap.size ≤ qx) := hqx
      have HPX : Hid (l.length + px.length ≤ maxLen) := hcm
      have H4 : Hid (Four w4 (b0 + 1) An Mn Cn (.slice ha hl.length hk)) := H3.out.below hbel
      obtain ⟨d0, d1, d2, d3⟩ := H4.out
      clear hbel hbx hqx hcm hlx
      obtain ⟨Fi, hF, hF8⟩ : ∃ F : Nat, (An : Int) % (8 * (l.length : Int)) = (F : Int) ∧ F < 8 * l.length := ⟨An % (8 * l.length), by simp, Nat.mod_lt _ (by omega)⟩
      go_wp2_with fail
      rw [hF]
      clear hF
      clear d0 d1 d2 d3
      go_loopw [50] (fun i wr => ∃ k : Nat, k ≤ 32 ∧ i = .int .i64 k ∧ Blk wr qx [] (MathA.turns l Fi Mn k) px ∧ Below w3.heap.size w3 wr) (fun i _ => 32 - (intOf i).toNat)
      case atStart => exact ⟨0, by omega, rfl, B4.out, Y4.out⟩
      case round =>
        obtain ⟨k, hk', rfl, hblk, hbel⟩ := hrel
        have XB : Hid (Below w3.heap.size w3 wr) := hbel
        have BB : Hid (Blk wr qx [] (MathA.turns l Fi Mn k) px) := hblk
        have HR : Hid (Four wr (b0 + 1) An Mn Cn (.slice ha hl.length hk)) := H3.out.below hbel
        clear hbel hblk B4 Y4 H4
        obtain ⟨d0, d1, d2, d3⟩ := HR.out
        by_cases hlt : k < 32
        · have hbit := and_bit Mn k HMN.out
          cases hMk : Mn.testBit k with
          | false =>
            rw [hMk] at hbit
            simp only [Bool.false_eq_true, if_false] at hbit
            go_wp2
            go_roundw
            case rel => exact ⟨k + 1, by omega, by go_num, by rw [turns_off hMk]; exact BB.out, XB.out⟩
            case measure => simp [intOf]; omega
          | true =>
            rw [hMk] at hbit
            simp only [if_true] at hbit
            by_cases hin : Fi + k < 8 * l.length
            · have hin' : (Fi : Int) + (k : Int) < 8 * (l.length : Int) := by omega
              have hlenT : (MathA.turns l Fi Mn k).length = l.length := MathA.turns_length _ _ _ _
              have hjl : (Fi + k) / 8 < (MathA.turns l Fi Mn k).length := by omega
              have hcl := BB.out.cell ((Fi + k) / 8) _ (map_bv_at _ _ hjl)
              simp only [List.length_nil, Nat.zero_add] at hcl
              have hfr := BB.out.frozen ((Fi + k) / 8)
              have HT : Hid (MathA.turns l Fi Mn (k + 1) = MathA.turn (MathA.turns l Fi Mn k) (Fi + k)) := turns_on hMk hin
              have HOO : Hid (∀ x : UInt8, Blk (wr.setCell ⟨qx, (Fi + k) / 8, none⟩ (bv x)) qx [] ((MathA.turns l Fi Mn k).set ((Fi + k) / 8) x) px) := fun x => by
                have h := BB.out.set ((Fi + k) / 8) hjl x
                simpa using h
              generalize MathA.turns l Fi Mn k = t at *
              generalize hy : t[(Fi + k) / 8] = y at *
              have HY : Hid (MathA.turn t (Fi + k) = t.set ((Fi + k) / 8) (MathA.turn8 y ((Fi + k) % 8))) := turn_set hjl hy
              clear hy hlenT hjl
              go_wp2
              go_region
              go_wp2
              go_roundw
              case rel => exact ⟨k + 1, by omega, by go_num, by rw [HT.out, HY.out, turn_val]; exact (HOO.out _).kept rfl, (XB.out.setCell (by exact HQX.out) _).drew⟩
              case measure => simp [intOf]; omega
            · have hin' : ¬ (Fi : Int) + (k : Int) < 8 * (l.length : Int) := by omega
              go_wp2
              go_roundw
              case rel => exact ⟨k + 1, by omega, by go_num, by rw [turns_out hin]; exact BB.out, XB.out⟩
              case measure => simp [intOf]; omega
        · have hk32 : k = 32 := by omega
          subst hk32
          have BT : Hid (Bs wr (.slice (some ⟨qx, 0, none⟩) l.length (l.length + px.length)) (MathA.turns l Fi Mn 32)) := BB.out.bs0 l.length (l.length + px.length) (MathA.turns_length _ _ _ _).symm (Nat.le_add_right _ _) HPX.out
          have HE : Hid ((parseE (MathA.turns l Fi Mn 32) = 0) ↔ MathA.turns l Fi Mn 32 = l) := HTU.out Fi Mn
          clear HTU BB d0 d1 d2 d3 HR
          generalize MathA.turns l Fi Mn 32 = T at *
          go_wp2_with fail
          refine (parse_ints c g _ T wr (C3.out.below XB.out) BT.out).mono ?_
          rintro e w5 ⟨v0, v1, v2, v3, v4, v5, v6, v7, a8, m8, k8, rfl, hb5⟩
          obtain ⟨E1, hE1⟩ : ∃ x, parseE T = x := ⟨_, rfl⟩
          rw [hE1]
          have HE1 : Hid (parseE T = E1) := hE1
          clear hE1
          have X5 : Hid (Below w3.heap.size w3 (w5.alloc (.cells #[.int .u64 v0, .int .i64 v1, .int .i64 v2, .int .i64 v3, .int .i64 v4, .int .i64 v5, .int .i64 v6, .int .u64 v7, .slice a8 m8 k8] 29))) := below_mid (below_mid XB.out hb5) (below_alloc _ _)
          have T5 : Hid (Bs (w5.alloc (.cells #[.int .u64 v0, .int .i64 v1, .int .i64 v2, .int .i64 v3, .int .i64 v4, .int .i64 v5, .int .i64 v6, .int .u64 v7, .slice a8 m8 k8] 29)) (.slice (some ⟨qx, 0, none⟩) l.length (l.length + px.length)) T) := (BT.out.below hb5).below (below_alloc _ _)
          clear hb5 XB BT
          go_upto_region 19 with (fail)
          obtain ⟨w6, hw6⟩ : ∃ w6, w5.alloc (.cells #[.int .u64 v0, .int .i64 v1, .int .i64 v2, .int .i64 v3, .int .i64 v4, .int .i64 v5, .int .i64 v6, .int .u64 v7, .slice a8 m8 k8] 29) = w6 := ⟨_, rfl⟩
          rw [hw6] at X5 T5 ⊢
          clear hw6
          obtain ⟨m, hm⟩ : ∃ m : Nat, max ((l.length : Int) - 1 - (Cn : Int)) 0 = (m : Int) := ⟨(max ((l.length : Int) - 1 - (Cn : Int)) 0).toNat, by omega⟩
          have hml : m < l.length := by omega
          have km : ∀ W, (Builtin.max_ #[3, 3] 3 #[.int .i64 ((l.length : Int) - 1 - (Cn : Int)), .int .i64 0]).run Try.prog W = .ok (.int .i64 (m : Int)) W := fun W => by rw [max2, hm]
          have hxc : l.length ≤ xc := by obtain ⟨-, _, _, e, h, -⟩ := LB.out; injection e with _ e2 e3; omega
          have s0 : ∀ W, (Instr.slice 27 (.slice xa l.length xc) none (some (.int .i64 (m : Int))) none).run Try.prog W = .ok (.slice xa m xc) W := fun W => slice_to W _ l.length xc m (by omega)
          have LT : Hid (Bs w6 (.slice xa m xc) (l.take m)) := (LB.out.below X5.out).take (by omega)
          have HPC : Hid (parseE (l.take m) ≠ 0) := parse_cut l m HPF.out hml
          have hw1 : IntKind.i64.wrap ((l.length : Int) - 1) = (l.length : Int) - 1 := by rw [IntKind.wrap_i64]; omega
          have hw2 : IntKind.i64.wrap ((l.length : Int) - 1 - (Cn : Int)) = (l.length : Int) - 1 - (Cn : Int) := by rw [IntKind.wrap_i64]; omega
          generalize l.take m = U at *
          have H6 := H3.out.below X5.out
          obtain ⟨d0, d1, d2, d3⟩ := H6
          clear hm hxc hml
          go_wp2_with fail
          refine (parse_ints c g _ U w6 (C3.out.below X5.out) LT.out).mono ?_
          rintro e w7 ⟨v0', v1', v2', v3', v4', v5', v6', v7', a8', m8', k8', rfl, hb7⟩
          obtain ⟨E2, hE2⟩ : ∃ x, parseE U = x := ⟨_, rfl⟩
          rw [hE2]
          have HE2 : Hid (E2 ≠ 0) := by rw [← hE2]; exact HPC.out
          clear hE2 HPC LT s0 km hw1 hw2 d0 d1 d2 d3
          have X7 : Hid (Below w3.heap.size w3 (w7.alloc (.cells #[.int .u64 v0', .int .i64 v1', .int .i64 v2', .int .i64 v3', .int .i64 v4', .int .i64 v5', .int .i64 v6', .int .u64 v7', .slice a8' m8' k8'] 29))) := below_mid (below_mid X5.out hb7) (below_alloc _ _)
          have T7 : Hid (Bs (w7.alloc (.cells #[.int .u64 v0', .int .i64 v1', .int .i64 v2', .int .i64 v3', .int .i64 v4', .int .i64 v5', .int .i64 v6', .int .u64 v7', .slice a8' m8' k8'] 29)) (.slice (some ⟨qx, 0, none⟩) l.length (l.length + px.length)) T) := (T5.out.below hb7).below (below_alloc _ _)
          clear hb7 X5 T5
          go_upto_region 20 with (fail)
          obtain ⟨w8, hw8⟩ : ∃ w8, w7.alloc (.cells #[.int .u64 v0', .int .i64 v1', .int .i64 v2', .int .i64 v3', .int .i64 v4', .int .i64 v5', .int .i64 v6', .int .u64 v7', .slice a8' m8' k8'] 29) = w8 := ⟨_, rfl⟩
          rw [hw8] at X7 T7 ⊢
          clear hw8
          have H8 : Hid (Four w8 (b0 + 1) An Mn Cn (.slice ha hl.length hk)) := H3.out.below X7.out
          have L8 : Hid (Bs w8 (.slice xa l.length xc) l) := LB.out.below X7.out
          have M8 : Hid (Bs w8 (.slice ha hl.length hk) hl) := MO.out.below X7.out
          have C8 : Hid (IsCo w8 c g) := C3.out.below X7.out
          have X8 : Hid (Below w.heap.size w w8) := below_mid X3.out X7.out
          clear X7 X3 C3 LB MO H3
          obtain ⟨E3, hE3⟩ : ∃ x, parseE (l ++ hl) = x := ⟨_, rfl⟩
          have HE3 : Hid (parseE (l ++ hl) = E3) := hE3
          clear hE3
          obtain ⟨d0, d1, d2, d3⟩ := H8.out
          have LL : Hid (l.length ≤ 1000000 ∧ hl.length ≤ 1000000) := ⟨by omega, by omega⟩
          have LQ : Hid (∀ W, Below w8.heap.size w8 W → Bs W (.slice xa l.length xc) l) := fun W hW => L8.out.below hW
          have MQ : Hid (∀ W, Below w8.heap.size w8 W → Bs W (.slice ha hl.length hk) hl) := fun W hW => M8.out.below hW
          have CB : Hid (∀ W, Below w8.heap.size w8 W → W.cell? ⟨b0 + 1, 3, none⟩ = some (.slice ha hl.length hk)) := fun W hW => (H8.out.below hW).2.2.2
          have CP : Hid (∀ W v, Below w8.heap.size w8 W → IsBs (l ++ hl) v W → Calls Try.prog 17 #[.pointer (some ⟨c, 0, none⟩), v] W fun e w' => ∃ u, e = .returned u ∧ IsTup E3 u w' ∧ Below W.heap.size W w') := by
            intro W v hW hv
            refine (parse_ints c g v (l ++ hl) W (C8.out.below hW) hv).mono ?_
            rintro e w' ⟨u0, u1, u2, u3, u4, u5, u6, u7, ua, um, uk, rfl, hb⟩
            exact ⟨_, rfl, ⟨u0, u1, u2, u3, u4, u5, u6, u7, ua, um, uk, by rw [HE3.out]⟩, hb⟩
          go_wp2
          refine wp_region_any (by kernel_rfl) ?_
          obtain ⟨gs, hgs⟩ : ∃ gs : List (Value → World → Prop), gs = [IsV (.pointer (some ⟨c, 0, none⟩)), IsAnyV, IsV (.slice xa l.length xc), IsAnyV, IsV (.pointer (some ⟨b0 + 1, 3, none⟩)), IsV (.slice ha hl.length hk), IsAnyV, IsTup E3, IsTup E3, IsAgg9, IsV (.int .i64 E3), IsAnyV, IsAnyV, IsV (.int .i64 E3)] := ⟨_, rfl⟩
          have g0 : Hid (gs[0]? = some (IsV (.pointer (some ⟨c, 0, none⟩)))) := by unfold Hid; rw [hgs]; rfl
          have g1 : Hid (gs[1]? = some (IsAnyV)) := by unfold Hid; rw [hgs]; rfl
          have g2 : Hid (gs[2]? = some (IsV (.slice xa l.length xc))) := by unfold Hid; rw [hgs]; rfl
          have g3 : Hid (gs[3]? = some (IsAnyV)) := by unfold Hid; rw [hgs]; rfl
          have g4 : Hid (gs[4]? = some (IsV (.pointer (some ⟨b0 + 1, 3, none⟩)))) := by unfold Hid; rw [hgs]; rfl
          have g5 : Hid (gs[5]? = some (IsV (.slice ha hl.length hk))) := by unfold Hid; rw [hgs]; rfl
          have g6 : Hid (gs[6]? = some (IsAnyV)) := by unfold Hid; rw [hgs]; rfl
          have g7 : Hid (gs[7]? = some (IsTup E3)) := by unfold Hid; rw [hgs]; rfl
          have g8 : Hid (gs[8]? = some (IsTup E3)) := by unfold Hid; rw [hgs]; rfl
          have g9 : Hid (gs[9]? = some (IsAgg9)) := by unfold Hid; rw [hgs]; rfl
          have g10 : Hid (gs[10]? = some (IsV (.int .i64 E3))) := by unfold Hid; rw [hgs]; rfl
          have g11 : Hid (gs[11]? = some (IsAnyV)) := by unfold Hid; rw [hgs]; rfl
          have g12 : Hid (gs[12]? = some (IsAnyV)) := by unfold Hid; rw [hgs]; rfl
          have g13 : Hid (gs[13]? = some (IsV (.int .i64 E3))) := by unfold Hid; rw [hgs]; rfl
          have gk : Hid (∀ p ∈ gs, ∀ v (U U' : World), p v U → p v U') := by
            unfold Hid
            rw [hgs]
            simp only [List.forall_mem_cons]
            exact ⟨(fun _ _ _ h => h), (fun _ _ _ h => h), (fun _ _ _ h => h), (fun _ _ _ h => h), (fun _ _ _ h => h), (fun _ _ _ h => h), (fun _ _ _ h => h), (fun _ _ _ h => h), (fun _ _ _ h => h), (fun _ _ _ h => h), (fun _ _ _ h => h), (fun _ _ _ h => h), (fun _ _ _ h => h), (fun _ _ _ h => h), by simp⟩
          clear hgs
          refine wpAny_inv4 (fun listed ac W => ∃ xv : Nat → Value, ac = ⟨#[Value.agg #[Value.int IntKind.u64 ↑n0, Value.int IntKind.i64 ↑n1, Value.int IntKind.i64 ↑n, Value.int IntKind.i64 ↑n3, Value.int IntKind.i64 ↑n4, Value.int IntKind.i64 ↑n5, Value.int IntKind.i64 ↑n6, Value.int IntKind.u64 ↑n7, Value.slice pa n pk], Value.agg #[Value.int IntKind.u16 ↑An, Value.int IntKind.u32 ↑Mn, Value.int IntKind.u8 ↑Cn, Value.slice ha hl.length hk], Value.pointer (some { block := b0, off := 0 }), Value.pointer (some { block := b0 + 1, off := 0 }), Value.bool false, Value.slice xa l.length xc, Value.int IntKind.i64 (0 : Int), Value.pointer (some { block := c, off := 0 }), Value.slice (some { block := qx, off := 0 }) l.length (l.length + px.length), Value.int IntKind.i64 ↑Fi, u10, u11, Value.pointer (some { block := w5.heap.size, off := 0 }), Value.int IntKind.i64 E1, Value.pointer (some { block := w7.heap.size, off := 0 }), Value.int IntKind.i64 E2, xv 11, xv 13, undef, undef, Value.bool true, Value.bool false, Value.pointer (some { block := b0, off := 8 }), Value.slice pa n pk, Value.int IntKind.i64 ↑n, Value.bool (decide ((300 : Int) < ↑n)), Value.bool (decide ((300 : Int) < ↑n)), Value.pointer (some { block := b0 + 1, off := 3 }), Value.slice ha hl.length hk, Value.int IntKind.i64 ↑hl.length, Value.bool (decide ((100 : Int) < ↑hl.length)), Value.bool (decide ((300 : Int) < ↑n) || decide ((100 : Int) < ↑hl.length)), Value.tuple #[Value.slice xa l.length xc, Value.int IntKind.i64 (0 : Int)], Value.agg #[Value.int IntKind.u64 ↑n0, Value.int IntKind.i64 ↑n1, Value.int IntKind.i64 ↑n, Value.int IntKind.i64 ↑n3, Value.int IntKind.i64 ↑n4, Value.int IntKind.i64 ↑n5, Value.int IntKind.i64 ↑n6, Value.int IntKind.u64 ↑n7, Value.slice pa n pk], Value.tuple #[Value.slice xa l.length xc, Value.int IntKind.i64 (0 : Int)], Value.slice xa l.length xc, Value.int IntKind.i64 (0 : Int), Value.int IntKind.i64 (0 : Int), Value.bool false, Value.pointer (some { block := c, off := 0 }), Value.slice (some { block := w3.heap.size, off := 0 }) 0 0, Value.slice xa l.length xc, Value.slice (some { block := qx, off := 0 }) l.length (l.length + px.length), Value.pointer (some { block := b0 + 1, off := 0 }), Value.int IntKind.u16 ↑An, Value.int IntKind.i64 ↑An, Value.slice (some { block := qx, off := 0 }) l.length (l.length + px.length), Value.int IntKind.i64 ↑l.length, Value.int IntKind.i64 ((8 : Int) * ↑l.length), Value.int IntKind.i64 ↑Fi, Value.int IntKind.i64 (32 : Int), Value.bool false, u52, u53, u54, u55, u56, u57, u58, u59, u60, u61, u62, u63, u64, u65, u66, u67, u68, u69, u70, u71, u72, u73, u74, u75, u76, u77, u78, u79, Value.tuple #[Value.agg #[Value.int IntKind.u64 v0, Value.int IntKind.i64 v1, Value.int IntKind.i64 v2, Value.int IntKind.i64 v3, Value.int IntKind.i64 v4, Value.int IntKind.i64 v5, Value.int IntKind.i64 v6, Value.int IntKind.u64 v7, Value.slice a8 m8 k8], Value.int IntKind.i64 E1], Value.pointer (some { block := c, off := 0 }), Value.slice (some { block := qx, off := 0 }) l.length (l.length + px.length), Value.tuple #[Value.agg #[Value.int IntKind.u64 v0, Value.int IntKind.i64 v1, Value.int IntKind.i64 v2, Value.int IntKind.i64 v3, Value.int IntKind.i64 v4, Value.int IntKind.i64 v5, Value.int IntKind.i64 v6, Value.int IntKind.u64 v7, Value.slice a8 m8 k8], Value.int IntKind.i64 E1], Value.agg #[Value.int IntKind.u64 v0, Value.int IntKind.i64 v1, Value.int IntKind.i64 v2, Value.int IntKind.i64 v3, Value.int IntKind.i64 v4, Value.int IntKind.i64 v5, Value.int IntKind.i64 v6, Value.int IntKind.u64 v7, Value.slice a8 m8 k8], Value.int IntKind.i64 E1, Value.tuple #[Value.agg #[Value.int IntKind.u64 v0', Value.int IntKind.i64 v1', Value.int IntKind.i64 v2', Value.int IntKind.i64 v3', Value.int IntKind.i64 v4', Value.int IntKind.i64 v5', Value.int IntKind.i64 v6', Value.int IntKind.u64 v7', Value.slice a8' m8' k8'], Value.int IntKind.i64 E2], Value.pointer (some { block := c, off := 0 }), Value.slice xa l.length xc, Value.slice xa l.length xc, Value.int IntKind.i64 ↑l.length, Value.int IntKind.i64 (↑l.length - (1 : Int)), Value.pointer (some { block := b0 + 1, off := 2 }), Value.int IntKind.u8 ↑Cn, Value.int IntKind.i64 ↑Cn, Value.int IntKind.i64 (↑l.length - (1 : Int) - ↑Cn), Value.int IntKind.i64 ↑m, Value.slice xa m xc, Value.tuple #[Value.agg #[Value.int IntKind.u64 v0', Value.int IntKind.i64 v1', Value.int IntKind.i64 v2', Value.int IntKind.i64 v3', Value.int IntKind.i64 v4', Value.int IntKind.i64 v5', Value.int IntKind.i64 v6', Value.int IntKind.u64 v7', Value.slice a8' m8' k8'], Value.int IntKind.i64 E2], Value.agg #[Value.int IntKind.u64 v0', Value.int IntKind.i64 v1', Value.int IntKind.i64 v2', Value.int IntKind.i64 v3', Value.int IntKind.i64 v4', Value.int IntKind.i64 v5', Value.int IntKind.i64 v6', Value.int IntKind.u64 v7', Value.slice a8' m8' k8'], Value.int IntKind.i64 E2, xv 8, xv 0, xv 1, xv 2, xv 3, xv 4, xv 5, xv 6, xv 7, xv 9, xv 10, undef, undef, undef, undef, undef, undef, undef, undef, undef, undef, undef, undef, undef, undef, undef, undef, undef, undef, undef, undef, undef, undef, undef, undef, undef, undef, undef, undef, undef, undef, undef], []⟩ ∧ Below w8.heap.size w8 W ∧ Lst gs listed xv W ∧ Fd listed xv W 1 3 (IsNone w8.heap.size) ∧ Fd listed xv W 3 6 (IsOwn w8.heap.size l) ∧ Fd listed xv W 6 7 (IsBs (l ++ hl)) ∧ Fd listed xv W 11 12 (IsBoxP w8.heap.size)) (by kernel_rfl) ?_ ?_ _ _ _ _ (by kernel_rfl) (of_decide_eq_true (by kernel_rfl)) (Down.start _) ⟨fun j => undef, rfl, below0 _, Lst.start _ _ _ _, Fd.start _ _ _ _ _ _, Fd.start _ _ _ _ _ _, Fd.start _ _ _ _ _ _, Fd.start _ _ _ _ _ _⟩
          · rintro listed ac W ⟨xv, rfl, hb, hG, hF1, hF3, hF6, hF11⟩ hD i hi hnl hd
            have hin : i < 14 := hi
            clear hi
            have hcase : i = 0 ∨ i = 1 ∨ i = 2 ∨ i = 3 ∨ i = 4 ∨ i = 5 ∨ i = 6 ∨ i = 7 ∨ i = 8 ∨ i = 9 ∨ i = 10 ∨ i = 11 ∨ i = 12 ∨ i = 13 := by omega
            rcases hcase with rfl | rfl | rfl | rfl | rfl | rfl | rfl | rfl | rfl | rfl | rfl | rfl | rfl | rfl
            · refine wpOp_step rfl (fun K' hK => ?_)
              clear hd hin hD
              go_simp
              exact hK _ _ ⟨updV xv 0 (.pointer (some ⟨c, 0, none⟩)), by simp [updV], hb, hG.any gk.out g0.out _ rfl, hF1.on (stays_none _) (Below.refl _ _) (by decide) (by decide) _, hF3.on (stays_own _ _) (Below.refl _ _) (by decide) (by decide) _, hF6.on (stays_bs _) (Below.refl _ _) (by decide) (by decide) _, hF11.on (stays_boxp _) (Below.refl _ _) (by decide) (by decide) _⟩
            · refine wpOp_step rfl (fun K' hK => ?_)
              clear hd hin hD
              go_simp
              exact hK _ _ ⟨updV xv 1 (.slice (some ⟨W.heap.size, 0, none⟩) 0 0), by simp [updV], hb.trans ((below_alloc _ _).mono hb.size), hG.any gk.out g1.out _ trivial, Fd.new (⟨_, rfl, hb.size, Blk.lit _ _ [] _ rfl rfl⟩), hF3.on (stays_own _ _) (below_alloc _ _) (by decide) (by decide) _, hF6.on (stays_bs _) (below_alloc _ _) (by decide) (by decide) _, hF11.on (stays_boxp _) (below_alloc _ _) (by decide) (by decide) _⟩
            · refine wpOp_step rfl (fun K' hK => ?_)
              clear hd hin hD
              go_simp
              exact hK _ _ ⟨updV xv 2 (.slice xa l.length xc), by simp [updV], hb, hG.any gk.out g2.out _ rfl, hF1.on (stays_none _) (Below.refl _ _) (by decide) (by decide) _, hF3.on (stays_own _ _) (Below.refl _ _) (by decide) (by decide) _, hF6.on (stays_bs _) (Below.refl _ _) (by decide) (by decide) _, hF11.on (stays_boxp _) (Below.refl _ _) (by decide) (by decide) _⟩
            · refine wpOp_step rfl (fun K' hK => ?_)
              simp [Region.binds] at hd
              have e2 : xv 2 = .slice xa l.length xc := hG.get g2.out (by simp [hd])
              have l1 : listed.getD 1 false = true := by simp [hd]
              obtain ⟨p1, e1, hp1, hbl1⟩ := hF1.get l1 hnl
              clear hd hin hD
              refine step_copy W rfl (.tmp 103) (.tmp 104) rfl p1 _ l _ e1 e2 hbl1 (LQ.out W hb) (by have := LL.out; omega) hp1 hb.size ?_
              intro q cap' w' hown hq hb'
              exact hK _ _ ⟨updV xv 3 (.slice (some ⟨q, 0, none⟩) l.length cap'), by simp [updV, Act.put], hb.trans (hb'.mono hb.size), hG.any gk.out g3.out _ trivial, Fd.off hnl, Fd.new (hown), hF6.on (stays_bs _) hb' (by decide) (by decide) _, hF11.on (stays_boxp _) hb' (by decide) (by decide) _⟩
            · refine wpOp_step rfl (fun K' hK => ?_)
              clear hd hin hD
              go_simp
              exact hK _ _ ⟨updV xv 4 (.pointer (some ⟨b0 + 1, 3, none⟩)), by simp [updV], hb, hG.any gk.out g4.out _ rfl, hF1.on (stays_none _) (Below.refl _ _) (by decide) (by decide) _, hF3.on (stays_own _ _) (Below.refl _ _) (by decide) (by decide) _, hF6.on (stays_bs _) (Below.refl _ _) (by decide) (by decide) _, hF11.on (stays_boxp _) (Below.refl _ _) (by decide) (by decide) _⟩
            · refine wpOp_step rfl (fun K' hK => ?_)
              simp [Region.binds] at hd
              have e4 : xv 4 = .pointer (some ⟨b0 + 1, 3, none⟩) := hG.get g4.out (by simp [hd])
              have dz := CB.out W hb
              clear hd hin hD
              go_simp
              exact hK _ _ ⟨updV xv 5 (.slice ha hl.length hk), by simp [updV, e4], hb, hG.any gk.out g5.out _ rfl, hF1.on (stays_none _) (Below.refl _ _) (by decide) (by decide) _, hF3.on (stays_own _ _) (Below.refl _ _) (by decide) (by decide) _, hF6.on (stays_bs _) (Below.refl _ _) (by decide) (by decide) _, hF11.on (stays_boxp _) (Below.refl _ _) (by decide) (by decide) _⟩
            · refine wpOp_step rfl (fun K' hK => ?_)
              simp [Region.binds] at hd
              have e5 : xv 5 = .slice ha hl.length hk := hG.get g5.out (by simp [hd])
              have l3 : listed.getD 3 false = true := by simp [hd]
              obtain ⟨q3, c3, post, ez, hq3, hB3, hlc, hcm, hcc⟩ := hF3.get l3 hnl
              clear hd hin hD
              refine step_appB W rfl (.tmp 105) (.tmp 107) rfl q3 l hl post l.length c3 (.slice ha hl.length hk) ez e5 hB3 (MQ.out W hb) (by omega) (by have := LL.out; omega) rfl hcc ?_
              intro q cap' post' W' hb2 hk2 hm2 hor
              exact hK _ _ ⟨updV xv 6 (.slice (some ⟨q, 0, none⟩) (l.length + hl.length) cap'), by simp [updV, Act.put], app_below hb hq3 hor, hG.any gk.out g6.out _ trivial, Fd.gone l3 (by decide), Fd.off hnl, Fd.new (app_bs hb2 hk2 hm2), hF11.step (fun v hv => by rcases hor with ⟨-, -, -, hg, -⟩ | ⟨-, -, hb', -⟩; exact boxp_other hv hB3 hg; exact stays_boxp _ v _ _ hb' hv) (by decide) (by decide) _⟩
            · refine wpOp_step rfl (fun K' hK => ?_)
              simp [Region.binds] at hd
              have e0 : xv 0 = .pointer (some ⟨c, 0, none⟩) := hG.get g0.out (by simp [hd])
              have l6 : listed.getD 6 false = true := by simp [hd]
              have m6 := hF6.get l6 hnl
              clear hd hin hD
              go_simp
              refine (CP.out W _ hb m6).mono ?_
              rintro e w' ⟨v, rfl, hv, hb'⟩
              go_wp2_with fail
              exact ⟨updV xv 7 v, by simp [updV, e0], hb.trans (hb'.mono hb.size), hG.any gk.out g7.out v hv, hF1.on (stays_none _) hb' (by decide) (by decide) _, hF3.on (stays_own _ _) hb' (by decide) (by decide) _, Fd.off hnl, hF11.on (stays_boxp _) hb' (by decide) (by decide) _⟩
            · refine wpOp_step rfl (fun K' hK => ?_)
              simp [Region.binds] at hd
              have m7 : IsTup E3 (xv 7) W := hG.get g7.out (by simp [hd])
              clear hd hin hD
              go_simp
              exact hK _ _ ⟨updV xv 8 (xv 7), by simp [updV], hb, hG.any gk.out g8.out _ m7, hF1.on (stays_none _) (Below.refl _ _) (by decide) (by decide) _, hF3.on (stays_own _ _) (Below.refl _ _) (by decide) (by decide) _, hF6.on (stays_bs _) (Below.refl _ _) (by decide) (by decide) _, hF11.on (stays_boxp _) (Below.refl _ _) (by decide) (by decide) _⟩
            · refine wpOp_step rfl (fun K' hK => ?_)
              simp [Region.binds] at hd
              have m8 : IsTup E3 (xv 8) W := hG.get g8.out (by simp [hd])
              obtain ⟨u0, u1, u2, u3, u4, u5, u6, u7, ua, um, uk, e8⟩ := m8
              clear hd hin hD
              go_simp
              exact hK _ _ ⟨updV xv 9 (.agg #[.int .u64 u0, .int .i64 u1, .int .i64 u2, .int .i64 u3, .int .i64 u4, .int .i64 u5, .int .i64 u6, .int .u64 u7, .slice ua um uk]), by simp [updV, e8], hb, hG.any gk.out g9.out _ ⟨_, _, _, _, _, _, _, _, _, _, _, rfl⟩, hF1.on (stays_none _) (Below.refl _ _) (by decide) (by decide) _, hF3.on (stays_own _ _) (Below.refl _ _) (by decide) (by decide) _, hF6.on (stays_bs _) (Below.refl _ _) (by decide) (by decide) _, hF11.on (stays_boxp _) (Below.refl _ _) (by decide) (by decide) _⟩
            · refine wpOp_step rfl (fun K' hK => ?_)
              simp [Region.binds] at hd
              have m8 : IsTup E3 (xv 8) W := hG.get g8.out (by simp [hd])
              obtain ⟨u0, u1, u2, u3, u4, u5, u6, u7, ua, um, uk, e8⟩ := m8
              clear hd hin hD
              go_simp
              exact hK _ _ ⟨updV xv 10 (.int .i64 E3), by simp [updV, e8], hb, hG.any gk.out g10.out _ rfl, hF1.on (stays_none _) (Below.refl _ _) (by decide) (by decide) _, hF3.on (stays_own _ _) (Below.refl _ _) (by decide) (by decide) _, hF6.on (stays_bs _) (Below.refl _ _) (by decide) (by decide) _, hF11.on (stays_boxp _) (Below.refl _ _) (by decide) (by decide) _⟩
            · refine wpOp_step rfl (fun K' hK => ?_)
              clear hd hin hD
              go_simp
              exact hK _ _ ⟨updV xv 11 (.pointer (some ⟨W.heap.size, 0, none⟩)), by simp [updV], hb.trans ((below_alloc _ _).mono hb.size), hG.any gk.out g11.out _ trivial, hF1.on (stays_none _) (below_alloc _ _) (by decide) (by decide) _, hF3.on (stays_own _ _) (below_alloc _ _) (by decide) (by decide) _, hF6.on (stays_bs _) (below_alloc _ _) (by decide) (by decide) _, Fd.new (⟨_, rfl, hb.size, alloc_block _ _⟩)⟩
            · refine wpOp_step rfl (fun K' hK => ?_)
              simp [Region.binds] at hd
              have m9 : IsAgg9 (xv 9) W := hG.get g9.out (by simp [hd])
              have l11 : listed.getD 11 false = true := by simp [hd]
              have q9 : listed.getD 9 false = true := by simp [hd]
              have q8 : listed.getD 8 false = true := by have h := hD 9 (by decide) q9; simp [Region.binds] at h; simp [h]
              have q7 : listed.getD 7 false = true := by have h := hD 8 (by decide) q8; simp [Region.binds] at h; simp [h]
              have q6 : listed.getD 6 false = true := by have h := hD 7 (by decide) q7; simp [Region.binds] at h; simp [h]
              have q3 : listed.getD 3 false = true := by have h := hD 6 (by decide) q6; simp [Region.binds] at h; simp [h]
              obtain ⟨b, eb, hbb, hbk⟩ := hF11.get l11 hnl
              obtain ⟨u0, u1, u2, u3, u4, u5, u6, u7, ua, um, uk, e9⟩ := m9
              obtain ⟨k0, k1, k2, k3, k4, k5, k6, k7, k8⟩ := boxp_cells hbk
              obtain ⟨f0, f1, f2, f3, f4, f5, f6, f7, f8⟩ := boxp_free hbk
              clear hd hin hD hbk
              go_simp
              exact hK _ _ ⟨updV xv 12 undef, by simp [updV, eb, e9], (((((((((hb.setCell hbb _).setCell hbb _).setCell hbb _).setCell hbb _).setCell hbb _).setCell hbb _).setCell hbb _).setCell hbb _).setCell hbb _), hG.any gk.out g12.out _ trivial, Fd.gone q3 (by decide), Fd.gone q6 (by decide), Fd.gone q7 (by decide), Fd.off hnl⟩
            · refine wpOp_step rfl (fun K' hK => ?_)
              simp [Region.binds] at hd
              have e10 : xv 10 = .int .i64 E3 := hG.get g10.out (by simp [hd])
              clear hd hin hD
              go_simp
              exact hK _ _ ⟨updV xv 13 (.int .i64 E3), by simp [updV, e10], hb, hG.any gk.out g13.out _ rfl, hF1.on (stays_none _) (Below.refl _ _) (by decide) (by decide) _, hF3.on (stays_own _ _) (Below.refl _ _) (by decide) (by decide) _, hF6.on (stays_bs _) (Below.refl _ _) (by decide) (by decide) _, hF11.on (stays_boxp _) (Below.refl _ _) (by decide) (by decide) _⟩
          · rintro listed ac W ⟨xv, rfl, hb, hG, -, -, -, -⟩ hall
            have e13 : xv 13 = .int .i64 E3 := hG.get g13.out (hall 13 (by decide))
            have XW : Hid (Below w8.heap.size w8 W) := hb
            clear hall hG hb gk g0 g1 g2 g3 g4 g5 g6 g7 g8 g9 g10 g11 g12 g13
            rw [e13]
            clear e13
            have X9 : Hid (Below w.heap.size w W) := below_mid X8.out XW.out
            have T9 : Hid (Bs W (.slice (some ⟨qx, 0, none⟩) l.length (l.length + px.length)) T) := T7.out.below XW.out
            have L9 : Hid (Bs W (.slice xa l.length xc) l) := L8.out.below XW.out
            have C9 : Hid (IsCo W c g) := C8.out.below XW.out
            have H9 : Hid (Four W (b0 + 1) An Mn Cn (.slice ha hl.length hk)) := H8.out.below XW.out
            clear XW X8 T7 L8 C8 H8 M8 LQ MQ CB CP d0 d1 d2 d3
            go_wp2_with fail
            refine (parse_ints c g _ l W C9.out L9.out).mono ?_
            rintro e w9 ⟨x0, x1, x2, x3, x4, x5, x6, x7, x8, xm, xk, rfl, hb9⟩
            rw [HPF.out]
            have X10 : Hid (Below w.heap.size w (w9.alloc (.cells #[.int .u64 x0, .int .i64 x1, .int .i64 x2, .int .i64 x3, .int .i64 x4, .int .i64 x5, .int .i64 x6, .int .u64 x7, .slice x8 xm xk] 29))) := below_mid (below_mid X9.out hb9) (below_alloc _ _)
            have T10 : Hid (Bs (w9.alloc (.cells #[.int .u64 x0, .int .i64 x1, .int .i64 x2, .int .i64 x3, .int .i64 x4, .int .i64 x5, .int .i64 x6, .int .u64 x7, .slice x8 xm xk] 29)) (.slice (some ⟨qx, 0, none⟩) l.length (l.length + px.length)) T) := (T9.out.below hb9).below (below_alloc _ _)
            have L10 : Hid (Bs (w9.alloc (.cells #[.int .u64 x0, .int .i64 x1, .int .i64 x2, .int .i64 x3, .int .i64 x4, .int .i64 x5, .int .i64 x6, .int .u64 x7, .slice x8 xm xk] 29)) (.slice xa l.length xc) l) := (L9.out.below hb9).below (below_alloc _ _)
            have H10 : Hid (Four (w9.alloc (.cells #[.int .u64 x0, .int .i64 x1, .int .i64 x2, .int .i64 x3, .int .i64 x4, .int .i64 x5, .int .i64 x6, .int .u64 x7, .slice x8 xm xk] 29)) (b0 + 1) An Mn Cn (.slice ha hl.length hk)) := (H9.out.below hb9).below (below_alloc _ _)
            clear hb9 X9 T9 L9 C9 H9
            go_upto_region 22 with (fail)
            obtain ⟨w10, hw10⟩ : ∃ w10, w9.alloc (.cells #[.int .u64 x0, .int .i64 x1, .int .i64 x2, .int .i64 x3, .int .i64 x4, .int .i64 x5, .int .i64 x6, .int .u64 x7, .slice x8 xm xk] 29) = w10 := ⟨_, rfl⟩
            rw [hw10] at X10 T10 L10 H10 ⊢
            clear hw10
            have kr1 := conv_bytes T10.out
            have kr2 := conv_bytes L10.out
            obtain ⟨d0, d1, d2, d3⟩ := H10.out
            have hE2n : ¬ E2 = 0 := HE2.out
            have HF3 : Hid (hl = [] → E3 = 0) := fun h => by rw [← HE3.out, h, List.append_nil]; exact HPF.out
            have HF4 : Hid (hl ≠ [] → E3 ≠ 0) := fun h => by rw [← HE3.out, parse_more l hl HPF.out h]; decide
            have HF1 : Hid (T = l → E1 = 0) := fun h => by rw [← HE1.out]; exact HE.out.2 h
            have HF2 : Hid (T ≠ l → E1 ≠ 0) := fun h h0 => h (HE.out.1 (by rw [HE1.out]; exact h0))
            have hstr : T ≠ l → str T ≠ str l := fun h h0 => h (by have := congrArg ByteArray.toList h0; rwa [str_toList, str_toList] at this)
            clear HE HE1 HE2 HE3 HPF T10 L10 H10
            have q1 : (E1 == 0) = ((str T).toList == (str l).toList) := by
              rw [str_toList, str_toList]
              by_cases hT : T = l
              · rw [HF1.out hT, hT]; simp
              · rw [beq_false_of_ne (HF2.out hT), beq_false_of_ne hT]
            have q3 : (E3 == 0) = ((hl.length : Int) == 0) := by
              by_cases hh : hl = []
              · rw [HF3.out hh, hh]; rfl
              · rw [beq_false_of_ne (HF4.out hh), beq_false_of_ne (by have := List.length_pos_iff.2 hh; omega)]
            clear HF1 HF2 HF3 HF4 hstr
            go_wp2
            go_ret
            exact ⟨ret_bool (by simp [hE2n]), X10.out⟩
    · have HH : Hid ((n : Int) ≠ B) := hlen
      go_wp2_with fail
      refine (renc_len S N B Q E F L I pa n pk w1 hm HH.out).mono ?_
      rintro e w2 ⟨rfl, hb2⟩
      have X2 : Hid (Below w.heap.size w w2) := below_mid X1.out hb2
      clear hb2
      go_wp2
      go_ret
      exact ⟨rfl, X2.out⟩
  · go_wp2_with fail
    refine (renc_no S N B Q E F L I _ w1 hm).mono ?_
    rintro e w2 ⟨rfl, hb2⟩
    have X2 : Hid (Below w.heap.size w w2) := below_mid X1.out hb2
    clear hb2
    go_wp2
    go_ret
    exact ⟨rfl, X2.out⟩

end Go.Proofs.Ytecohgmllmddhaa
