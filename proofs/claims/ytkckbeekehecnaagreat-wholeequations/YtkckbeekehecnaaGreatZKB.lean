/-
  Texts that lie together: KF KH KI KJ KK KL KO KP.
-/
import Derived.Test.YtkckbeekehecnaaGreatZKA
import Derived.Carry
namespace Go.Proofs.YtkckbeekehecnaaGreat

section
/-
  closure.Reach.
-/
open Go.RowKit
set_option linter.unusedVariables false

theorem Tryz.infoR : (Tryz.prog.info? 29).map (fun i => (i.zero, i.size, i.bytes)) = some (some (.slice none 0 0), 1, 24) := by kernel_rfl
/-- Rows of numbers, in a slice of one's own. -/
def OwnR (B : Nat) (w : World) (v : Value) (n : Nat) (vs : List Value) : Prop := w.ownsRow B 29 1 v n vs
theorem OwnR.len {B n : Nat} {w : World} {v : Value} {vs : List Value} (h : OwnR B w v n vs) : vs.length = n := by
  have := h.1
  simpa using this
theorem OwnR.sl {B n : Nat} {w : World} {v : Value} {vs : List Value} (h : OwnR B w v n vs) : Sl 1 w v n vs := owned_slN h
theorem OwnR.lt {B n : Nat} {w : World} {v : Value} {vs : List Value} (h : OwnR B w v n vs) : ∀ q, v.ownBlock = some q → B ≤ q ∧ q < w.heap.size := fun q hq => World.ownsRow.lt h q hq
theorem OwnR.kept {B n : Nat} {w w' : World} {v : Value} {vs : List Value} (h : OwnR B w v n vs) (hk : ∀ q, v.ownBlock = some q → w'.heap[q]? = w.heap[q]?) : OwnR B w' v n vs := owns_kept h hk
theorem OwnR.below {B n : Nat} {w w' : World} {v : Value} {vs : List Value} (h : OwnR B w v n vs) (hb : Below w.heap.size w w') : OwnR B w' v n vs := h.kept fun q hq => hb.block q (h.lt q hq).2
theorem OwnR.nil (B : Nat) (w : World) : OwnR B w (.slice none 0 0) 0 [] := ⟨rfl, .inl ⟨rfl, rfl⟩⟩
theorem wpList_addR (w : World) {ops : Array Oper} {rest : List Oper} {o : Oper} {a : Act} {Q : Exit → Act → World → Prop} (hgd : o.guard = none) (s x : Operand)
    (ho : o.op = .call { callee := .builtin .append, args := #[s, x], argTypes := #[46, 46] })
    (B : Nat) (v : Value) (n : Nat) (l : List Value) (hs : a.eval s = v) (hown : OwnR B w v n l)
    (xv : Value) (u : Value) (hx : a.eval x = xv) (hsrc : Sl 1 w xv 1 [u]) (hu : u.oneCell' = true)
    (hlen : n + 1 ≤ 1000000000) (hbase : B ≤ w.heap.size)
    (h : ∀ ao cap w', OwnR B w' (.slice ao (n + 1) cap) (n + 1) (l ++ [u]) → w.grownBy w' v.ownBlock → wpList Tryz.prog ops Q rest (a.put o.dst (.slice ao (n + 1) cap)) w') : wpList Tryz.prog ops Q (o :: rest) a w := by
  obtain ⟨i, hi, hz, h1, h8⟩ := info_parts Tryz.infoR
  refine wpList_app w hgd s x 46 ho B 29 i (.slice none 0 0) 1 24 Tryz.underlying46 hi hz h1 h8 rfl (by decide) v n _ hs hown xv 1 _ hx hsrc (by intro y hy; rw [List.mem_singleton.1 hy]; exact hu) (by unfold maxLen; omega) (by omega) hbase ?_
  intro ao cap w' h2 h3 h4 h5 h6 h7
  exact h ao cap w' h2 h3

/-- Numbers such as there are, rising? -/
def fitsI (all : Int) (l : List Int) : Bool := decide (l.Pairwise (· < ·) ∧ ∀ x ∈ l, 0 ≤ x ∧ x < all)
theorem fitsI_iff {all : Int} {l : List Int} : fitsI all l = true ↔ FitI all l := by
  unfold fitsI FitI
  exact decide_eq_true_iff
def fitF (all : Int) (ls : List (List Int)) : List (List Int) := ls.filter (fitsI all)
theorem fitF_mem {all : Int} {ls : List (List Int)} {l : List Int} : l ∈ fitF all ls ↔ l ∈ ls ∧ FitI all l := by
  unfold fitF
  rw [List.mem_filter, fitsI_iff]
theorem fitF_next {all : Int} {ls : List (List Int)} {i : Nat} {l : List Int} (h : ls[i]? = some l) : fitF all (ls.take (i + 1)) = fitF all (ls.take i) ++ (if fitsI all l = true then [l] else []) := by
  obtain ⟨hi, e⟩ := List.getElem?_eq_some_iff.1 h
  unfold fitF
  rw [List.take_succ_eq_append_getElem hi, e, List.filter_append]
  congr 1
  cases hf : fitsI all l <;> simp [hf]
theorem fitF_flat (all : Int) (ls : List (List Int)) : (fitF all ls).flatten.length ≤ ls.flatten.length := by
  unfold fitF
  induction ls with
  | nil => simp
  | cons l ls ih =>
    rw [List.filter_cons]
    split
    · rw [List.flatten_cons, List.flatten_cons, List.length_append, List.length_append]; omega
    · rw [List.flatten_cons, List.length_append]; omega
theorem fitF_len (all : Int) (ls : List (List Int)) : (fitF all ls).length ≤ ls.length := List.length_filter_le _ _
theorem LsZ.snoc {w : World} {us : List Value} {ls : List (List Int)} (h : LsZ w us ls) {v : Value} {l : List Int} (hz : Zs w v l) : LsZ w (us ++ [v]) (ls ++ [l]) := by
  refine ⟨by rw [List.length_append, List.length_append, h.1]; rfl, fun i v' l' hv hl => ?_⟩
  by_cases hlt : i < us.length
  · rw [List.getElem?_append_left hlt] at hv
    rw [List.getElem?_append_left (by rw [← h.1]; exact hlt)] at hl
    exact h.2 i v' l' hv hl
  · rw [List.getElem?_append_right (by omega)] at hv
    rw [List.getElem?_append_right (by rw [← h.1]; omega), ← h.1] at hl
    cases hk : i - us.length with
    | zero =>
      rw [hk] at hv hl
      simp at hv hl
      subst hv; subst hl
      exact hz
    | succ k => rw [hk] at hv; simp at hv
theorem LsZ.nil (w : World) : LsZ w [] [] := ⟨rfl, fun i v l h => by simp at h⟩
theorem one_srcV (w : World) (u : Value) (e : TypeId) : Sl 1 (w.alloc (.cells #[u] e)) (.slice (some ⟨w.heap.size, 0, none⟩) 1 1) 1 [u] := alloc_one _ _

/-- One step of the steps. -/
theorem steps_at {B n : Nat} {W : World} {v : Value} {ss : List (Nat × Int)} (h : W.ownsRow B 99 2 v n (stepCells ss)) {i : Nat} {e : Nat} {b : Int} (he : ss[i]? = some (e, b)) :
    ∃ g c, v = .slice (some ⟨g, 0, none⟩) n c ∧ W.cell? ⟨g, i * 2, none⟩ = some (.int .i64 (e : Int)) ∧ W.cell? ⟨g, i * 2 + 1, none⟩ = some (.int .i64 b) := by
  have hg : ∀ (l : List (Nat × Int)) (i : Nat), l[i]? = some (e, b) → (stepCells l)[i * 2]? = some (.int .i64 (e : Int)) ∧ (stepCells l)[i * 2 + 1]? = some (.int .i64 b) := by
    intro l
    induction l with
    | nil => intro i h; simp at h
    | cons x l ih =>
      intro i h
      cases i with
      | zero =>
        simp at h
        subst h
        simp [stepCells]
      | succ i =>
        have h' := ih i (by simpa using h)
        have e1 : (i + 1) * 2 = i * 2 + 2 := by omega
        rw [e1]
        simp only [stepCells, List.flatMap_cons] at h' ⊢
        exact h'
  obtain ⟨h1, h2⟩ := hg ss i he
  obtain ⟨hl, ao, cap, hv, -, -, -, h5⟩ := owned_slN h
  rcases h.2 with ⟨-, h0⟩ | ⟨g, cap', cur, hv', -⟩
  · exfalso
    have : stepCells ss = [] := List.eq_nil_of_length_eq_zero (by rw [hl, h0])
    rw [this] at h1
    simp at h1
  · refine ⟨g, cap', hv', ?_⟩
    rcases h5 with h0 | ⟨b', off, ea, hc⟩
    · exfalso
      have : stepCells ss = [] := List.eq_nil_of_length_eq_zero (by rw [hl, h0])
      rw [this] at h1
      simp at h1
    · rw [hv'] at hv
      injection hv with e1 _ _
      rw [ea] at e1
      injection e1 with e1
      injection e1 with e1 e2 _
      subst e1
      subst e2
      have h3 := hc _ _ h1
      have h4 := hc _ _ h2
      rw [Nat.zero_add] at h3 h4
      exact ⟨h3, h4⟩
theorem steps_shape {B n : Nat} {W : World} {v : Value} {ss : List (Nat × Int)} (h : W.ownsRow B 99 2 v n (stepCells ss)) : ∃ a c, v = .slice a n c ∧ n ≤ c ∧ c ≤ 9223372036854775807 := by
  obtain ⟨a, c, h1, h2, h3, -⟩ := owned_slice h
  unfold maxLen at h3
  exact ⟨a, c, h1, h2, h3⟩
theorem rise_sorted {l : List Int} (hs : l.Pairwise (· ≤ ·)) (hn : l.Nodup) : l.Pairwise (· < ·) := by
  rw [List.nodup_iff_pairwise_ne] at hn
  exact (hs.and hn).imp (fun h => by omega)

/-- None is late. -/
theorem reach1_any (z : Int) (w : World) : Calls Tryz.prog 41 #[.int .i64 z] w fun e w' => e = .returned (.bool false) ∧ Below w.heap.size w w' := by
  go_enter Tryz.func41, Tryz.ntmps41
  go_wp2
  go_ret
  exact ⟨rfl, Below.refl _ _⟩
theorem leaveOk0 (Wb : World) (p m : Nat) : LeaveOk Wb p m (.func (.func 41) #[] #[]) := fun e v s w hs hb hm he hfv hF => leave0 Wb p m s e v w hs hb hm he hfv hF fun e W _ _ => reach1_any (e : Int) W

end

section
/-
  closure.Reach: the walk.
-/
open Go.RowKit
set_option linter.unusedVariables false

set_option maxRecDepth 100000 in
set_option maxHeartbeats 2000000 in
/-- REACH: the blocks that follow. -/
theorem kreach_any (all : Int) (pv : Value) (vs : List Value) (ls : List (List Int)) (w : World) (hp : Sl 1 w pv vs.length vs) (hz : LsZ w vs ls) (hm0 : vs.length ≤ 100000) (hT : ls.flatten.length ≤ 1000000) (hall : all ≤ 9223372036854775807) :
    Calls Tryz.prog 15 #[.int .i64 all, pv] w fun e w' => ∃ (a : Option Addr) (n c : Nat) (r : List Int), e = .returned (.slice a n c) ∧ OwnZ w.heap.size w' (.slice a n c) n r ∧ r.Pairwise (· < ·) ∧ (∀ x, x ∈ r ↔ Fol (fitF all ls) x) ∧ Below w.heap.size w w' := by
  have HZ : Hid (LsZ w vs ls) := hz
  have HT : Hid (ls.flatten.length ≤ 1000000) := hT
  obtain ⟨m, hm⟩ : ∃ m, vs.length = m := ⟨_, rfl⟩
  have HF : Hid (ls.length = m) := by rw [← hm]; exact hz.1.symm
  have hp' := hp
  obtain ⟨-, ao, pc, rfl, hp2, hp3, -, -⟩ := hp'
  unfold maxLen at hp3
  have HP0 : Hid (Sl 1 w (.slice ao m pc) vs.length vs) := by
    unfold Hid
    rw [hm] at hp ⊢
    exact hp
  rw [hm] at hp2 hm0 ⊢
  have HA : Hid (all ≤ 9223372036854775807) := hall
  clear hm hz hp hT hall
  go_enter Tryz.func15, Tryz.ntmps15
  go_wp2
  go_loopw [5, 13] (fun fv iv wr => ∃ (i n : Nat) (a : Option Addr) (c : Nat) (us : List Value), i ≤ m ∧ iv = .int .i64 i ∧ fv = .slice a n c ∧ n ≤ i ∧ Hid (OwnR w.heap.size wr (.slice a n c) n us) ∧ Hid (LsZ w us (fitF all (ls.take i))) ∧ Hid (Below w.heap.size w wr)) (fun _ iv _ => m - (intOf iv).toNat)
  case atStart => exact ⟨0, 0, none, 0, [], by omega, rfl, rfl, by omega, OwnR.nil _ _, LsZ.nil w, Below.refl _ _⟩
  case round =>
    obtain ⟨i, n, a, c, us, hi, rfl, rfl, hni, OO, UU, XX⟩ := hrel
    by_cases hlt : i < m
    · obtain ⟨l, hl⟩ : ∃ l, ls[i]? = some l := ⟨_, List.getElem?_eq_getElem (by rw [HF.out]; exact hlt)⟩
      obtain ⟨lv, hlv, hlz⟩ := HZ.out.at hl
      obtain ⟨b0, off, rfl, ci⟩ := sl_at HP0.out XX.out hlv
      have NX : Hid (fitF all (ls.take (i + 1)) = fitF all (ls.take i) ++ (if fitsI all l = true then [l] else [])) := fitF_next hl
      have LZ : Hid (Zs w lv l) := hlz
      have HLZ : Hid (Zs wr lv l) := hlz.below XX.out
      obtain ⟨la, lc, rfl, hl2, hl3⟩ := zs_shape hlz
      clear hl hlv hlz
      go_wp2_with fail
      refine (kfits_any all _ l wr HLZ.out).mono ?_
      rintro e w2 ⟨⟨b, rfl, hb⟩, rfl⟩
      by_cases hf : FitI all l
      · have hbt : b = true := hb.2 hf
        subst hbt
        have NY : Hid (fitF all (ls.take (i + 1)) = fitF all (ls.take i) ++ [l]) := by
          have h1 := NX.out
          rw [if_pos (fitsI_iff.2 hf)] at h1
          exact h1
        have OA : Hid (OwnR w.heap.size (w2.alloc (.cells #[.slice la l.length lc] 29)) (.slice a n c) n us) := OO.out.below (below_alloc _ _)
        have SA : Hid (w.heap.size ≤ (w2.alloc (.cells #[.slice la l.length lc] 29)).heap.size) := Nat.le_trans XX.out.size (below_alloc _ _).size
        have hn1 : n + 1 ≤ 1000000000 := by omega
        clear hb NX hf
        go_wp2_with (at_builtin; refine wpList_addR _ rfl (.tmp 20) (.tmp 22) rfl w.heap.size (.slice a n c) n us rfl OA.out _ (.slice la l.length lc) rfl (one_srcV _ _ _) rfl hn1 SA.out ?_; intro a4 k4 w4 ho4 hg4)
        have O4 : Hid (OwnR w.heap.size w4 (.slice a4 (n + 1) k4) (n + 1) (us ++ [.slice la l.length lc])) := ho4
        have U4 : Hid (LsZ w (us ++ [.slice la l.length lc]) (fitF all (ls.take (i + 1)))) := by rw [NY.out]; exact UU.out.snoc LZ.out
        have X4 : Hid (Below w.heap.size w w4) := (XX.out.alloc XX.out.size _).grown hg4 SA.out (fun k hk => (OA.out.lt k hk).1)
        clear ho4 hg4 OA SA OO UU NY
        go_roundw
        case rel => exact ⟨i + 1, n + 1, a4, k4, _, by omega, by go_num, rfl, by omega, O4, U4, X4⟩
        case measure => simp [intOf]; omega
      · have hbf : b = false := by cases b with
          | false => rfl
          | true => exact absurd (hb.1 rfl) hf
        subst hbf
        have U4 : Hid (LsZ w us (fitF all (ls.take (i + 1)))) := by
          unfold Hid
          rw [NX.out, if_neg (fun h => hf (fitsI_iff.1 h)), List.append_nil]
          exact UU.out
        clear hb NX UU hf
        go_wp2
        go_roundw
        case rel => exact ⟨i + 1, n, a, c, us, by omega, by go_num, rfl, by omega, OO, U4, XX⟩
        case measure => simp [intOf]; omega
    · obtain rfl : m = i := by omega
      obtain ⟨fl, hfl⟩ : ∃ fl, fitF all ls = fl := ⟨_, rfl⟩
      have U0 : LsZ w us fl := by
        have h1 := UU.out
        rwa [List.take_of_length_le (by rw [HF.out]; exact Nat.le_refl _), hfl] at h1
      have hun : us.length = n := OO.out.len
      have F1 : ∀ l ∈ fl, l.Nodup ∧ ∀ x ∈ l, 0 ≤ x ∧ x < 9223372036854775808 := fun l hl => by
        rw [← hfl] at hl
        obtain ⟨-, h2⟩ := fitF_mem.1 hl
        exact ⟨h2.nodup, fun x hx => by have h3 := h2.2 x hx; have h4 := HA.out; omega⟩
      have F2 : fl.flatten.length ≤ 1000000 := by rw [← hfl]; exact Nat.le_trans (fitF_flat all ls) HT.out
      have SO : Hid (∀ W, Below w.heap.size w W → OwnR w.heap.size W (.slice a n c) n us → Calls Tryz.prog 40 #[.slice a n c, .func (.func 41) #[] #[]] W fun e w' => ∃ (p : Nat) (s : SpS), e = .returned (.pointer (some ⟨p, 0, none⟩)) ∧ Sp W.heap.size w' p s ∧ Run fl (.func (.func 41) #[] #[]) s ∧ Done fl (kn s) ∧ Below W.heap.size W w') := fun W hW hO => by
        have h1 := hO.sl
        rw [← hun] at h1
        rw [← hun]
        exact spreadOf_any (.func 41) #[] #[] _ us fl W h1 (U0.below hW) (by omega) F2 F1 (fun p => leaveOk0 W p us.length)
      have NF : Hid (∀ l ∈ fl, l.Nodup) := fun l hl => (F1 l hl).1
      have hfn : fl.length ≤ m := by rw [← U0.1, hun]; exact hni
      have HFL : Hid (fitF all ls = fl) := hfl
      clear U0 UU hun F1 F2
      go_wp2_with fail
      refine (SO.out wr XX.out OO.out).mono ?_
      rintro e w2 ⟨p, s, rfl, hS, hR, hD, hX⟩
      have SS : Hid (Sp wr.heap.size w2 p s) := hS
      have RR : Hid (Run fl (.func (.func 41) #[] #[]) s) := hR
      have DD : Hid (Done fl (kn s)) := hD
      have X2 : Hid (Below w.heap.size w w2) := XX.out.trans (hX.mono XX.out.size)
      obtain ⟨-, -, -, -, -, -, c6⟩ := hS.cells
      obtain ⟨sa, sc, es, hs2, hs3⟩ := steps_shape hS.steps
      obtain ⟨N, hN⟩ : ∃ N, s.ss.length = N := ⟨_, rfl⟩
      have HN : Hid (s.ss.length = N) := hN
      have ST : Hid (w2.ownsRow wr.heap.size 99 2 (.slice sa N sc) N (stepCells s.ss)) := by
        have h1 := hS.steps
        rw [es, hN] at h1
        exact h1
      rw [es, hN] at c6
      rw [hN] at hs2
      have hN3 : N ≤ 300000 := by
        have h1 := hR.len
        omega
      clear hS hR hD hX SO OO XX es hN
      go_wp2
      go_loopw [8, 31] (fun rv iv wr => ∃ (i : Nat) (a : Option Addr) (c : Nat), i ≤ N ∧ iv = .int .i64 i ∧ rv = .slice a i c ∧ Hid (OwnZ w.heap.size wr (.slice a i c) i ((kn s).take i)) ∧ Hid (Below w2.heap.size w2 wr) ∧ Hid (Below w.heap.size w wr) ∧ Hid (∀ k, (Value.slice a i c).ownBlock = some k → w2.heap.size ≤ k)) (fun _ iv _ => N - (intOf iv).toNat)
      case atStart => exact ⟨0, none, 0, by omega, rfl, rfl, OwnZ.nil _ _, Below.refl _ _, X2, fun k hk => by cases hk⟩
      case round =>
        clear X2
        obtain ⟨i2, a2, c2, hi2, rfl, rfl, OO, B2, XX, OB⟩ := hrel
        by_cases hlt2 : i2 < N
        · obtain ⟨⟨e, b⟩, he⟩ : ∃ q, s.ss[i2]? = some q := ⟨_, List.getElem?_eq_getElem (by rw [HN.out]; exact hlt2)⟩
          obtain ⟨g, gc, eg, g1, g2⟩ := steps_at ST.out he
          injection eg with eg1 eg2 eg3
          subst eg1
          subst eg3
          have c1 : wr.cell? ⟨g, i2 * 2, none⟩ = some (.int .i64 (e : Int)) := (B2.out.cell (cell_block_lt g1)).trans g1
          have c3 : wr.cell? ⟨g, i2 * 2 + 1, none⟩ = some (.int .i64 b) := (B2.out.cell (cell_block_lt g2)).trans g2
          have KT : Hid ((kn s).take (i2 + 1) = (kn s).take i2 ++ [b]) := by
            have h1 : (kn s)[i2]? = some b := by unfold kn; rw [List.getElem?_map, he]; rfl
            obtain ⟨h2, h3⟩ := List.getElem?_eq_some_iff.1 h1
            unfold Hid
            rw [List.take_succ_eq_append_getElem h2, h3]
          clear g1 g2 he c6
          go_upto_region 12 with fail
          obtain ⟨w5, hw5⟩ : ∃ x, wr.alloc (.cells #[.int .i64 (e : Int), .int .i64 b] 99) = x := ⟨_, rfl⟩
          have A5 : Below wr.heap.size wr w5 := by rw [← hw5]; exact below_alloc _ _
          have e5 : w5.cell? ⟨wr.heap.size, 1, none⟩ = some (.int .i64 b) := by rw [← hw5]; simp
          have S5 : Hid (w.heap.size ≤ w5.heap.size) := Nat.le_trans XX.out.size A5.size
          have OA : Hid (OwnZ w.heap.size (w5.alloc (.cells #[.int .i64 b] 3)) (.slice a2 i2 c2) i2 ((kn s).take i2)) := (OO.out.below A5).alloc _
          have XA : Hid (Below w.heap.size w (w5.alloc (.cells #[.int .i64 b] 3))) := (XX.out.trans (A5.mono XX.out.size)).alloc S5.out _
          have B5 : Hid (Below w2.heap.size w2 w5) := B2.out.trans (A5.mono B2.out.size)
          have hi9 : i2 + 1 ≤ 1000000000 := by omega
          have OL : Hid (∀ k, (Value.slice a2 i2 c2).ownBlock = some k → w2.heap.size ≤ k) := OB.out
          rw [hw5]
          clear hw5 A5 c1 c3 OO B2 XX
          go_wp2_with (at_builtin; refine wpList_addZ _ rfl (.tmp 35) (.tmp 38) rfl w.heap.size (.slice a2 i2 c2) i2 ((kn s).take i2) rfl OA.out _ 1 [b] rfl (zs_one _ _ _) hi9 (Nat.le_trans S5.out (below_alloc _ _).size) ?_; intro a4 k4 w4 ho4 hg4 hat4 hnc4 hcm4)
          have O4 : Hid (OwnZ w.heap.size w4 (.slice a4 (i2 + 1) k4) (i2 + 1) ((kn s).take (i2 + 1))) := by rw [KT.out]; exact ho4
          have X4 : Hid (Below w.heap.size w w4) := XA.out.grown hg4 XA.out.size (fun k hk => (OA.out.lt k hk).1)
          have B4 : Hid (Below w2.heap.size w2 w4) := (B5.out.alloc B5.out.size _).grown hg4 (Nat.le_trans B5.out.size (below_alloc _ _).size) (fun k hk => OL.out k hk)
          have L4 : Hid (∀ k, (Value.slice a4 (i2 + 1) k4).ownBlock = some k → w2.heap.size ≤ k) := by
            intro k hk
            rcases hat4 with h1 | h1
            · exact OL.out k (by rw [← h1]; exact hk)
            · rw [h1] at hk
              have h2 := Option.some.inj hk
              rw [← h2]
              exact Nat.le_trans B5.out.size (below_alloc _ _).size
          clear ho4 hg4 hat4 hnc4 hcm4 OA XA B5 OL OB KT
          go_roundw
          case rel => exact ⟨i2 + 1, a4, k4, by omega, by go_num, rfl, O4, B4, X4, L4⟩
          case measure => simp [intOf]; omega
        · obtain rfl : N = i2 := by omega
          have O5 : Hid (OwnZ w.heap.size wr (.slice a2 N c2) N (kn s)) := by
            have h1 := OO.out
            rwa [List.take_of_length_le (by unfold kn; rw [List.length_map, HN.out]; exact Nat.le_refl _)] at h1
          have HND : Hid ((kn s).Nodup) := RR.out.d.nodup
          have HFO : Hid (∀ x, x ∈ kn s ↔ Fol fl x) := deriv_iff NF.out RR.out.d DD.out
          clear OO B2 OB c6
          go_wp2_with fail
          refine (sort_own w.heap.size a2 N c2 (kn s) wr O5.out (by omega)).mono ?_
          rintro e w6 ⟨rfl, ho, hg⟩
          have O6 : Hid (OwnZ w.heap.size w6 (.slice a2 N c2) N (sortI (kn s))) := ho
          have X6 : Hid (Below w.heap.size w w6) := XX.out.grown hg XX.out.size (fun k hk => (O5.out.lt k hk).1)
          clear ho hg
          go_wp2
          go_ret
          refine ⟨a2, N, c2, sortI (kn s), rfl, O6.out, ?_, fun x => ?_, X6.out⟩
          · exact rise_sorted (sortI_sorted _) ((sortI_perm _).nodup_iff.2 HND.out)
          · rw [mem_sortI, HFO.out x, HFL.out]

end

section
/-
  The document's Reach.
-/
open Go.RowKit
set_option linter.unusedVariables false

def lenS : Value → Nat
  | .slice _ n _ => n
  | _ => 0
def oneV : Value → Nat
  | .bool true => 1
  | _ => 0
theorem insI_mem {n x : Int} {l : List Int} : x ∈ insI n l ↔ x = n ∨ x ∈ l := by
  rw [(insI_perm n l).mem_iff, List.mem_cons]
theorem insI_rise {n : Int} {l : List Int} (h : l.Pairwise (· < ·)) (hn : n ∉ l) : (insI n l).Pairwise (· < ·) := by
  refine rise_sorted (insI_sorted n (h.imp (fun h => Int.le_of_lt h))) ((insI_perm n l).nodup_iff.2 (List.nodup_cons.2 ⟨hn, ?_⟩))
  rw [List.nodup_iff_pairwise_ne]
  exact h.imp (fun h => by omega)
theorem rise_nodup {l : List Int} (h : l.Pairwise (· < ·)) : l.Nodup := by
  rw [List.nodup_iff_pairwise_ne]
  exact h.imp (fun h => by omega)
theorem fol_flat {fl : List (List Int)} {K : List Int} (hn : K.Nodup) (h : ∀ x ∈ K, Fol fl x) : K.length ≤ fl.flatten.length := by
  refine hn.length_le_of_subset fun x hx => ?_
  obtain ⟨l, hl, hx'⟩ := (h x hx).ex
  exact List.mem_flatten.2 ⟨l, hl, hx'⟩
/-- What is left alone of an equation follows. -/
theorem fol_left {fl : List (List Int)} {K l : List Int} {x : Int} (hK : ∀ y ∈ K, Fol fl y) (hl : l ∈ fl) (hx : leftZ K l = [x]) : Fol fl x ∧ x ∉ K := by
  have h1 : x ∈ leftZ K l := by rw [hx]; simp
  obtain ⟨h2, h3⟩ := leftZ_mem.1 h1
  refine ⟨Fol.step l x hl h2 fun y hy hne => ?_, h3⟩
  by_cases hk : y ∈ K
  · exact hK y hk
  · have : y ∈ leftZ K l := leftZ_mem.2 ⟨hy, hk⟩
    rw [hx] at this
    exact absurd (List.mem_singleton.1 this) hne

end

section
/-
  closure.closedInOrder: what it keeps; whose values are others.
-/
open Go.RowKit
set_option linter.unusedVariables false

theorem Tryz.infoBool : (Tryz.prog.info? 4).map (fun i => (i.zero, i.size, i.bytes)) = some (some (.bool false), 1, 1) := by kernel_rfl
/-- A table of m bools. -/
def tabB (m : Nat) (h : Nat → Bool) : List Bool := (List.range m).map h
theorem tabB_length (m : Nat) (h : Nat → Bool) : (tabB m h).length = m := by simp [tabB]
theorem tabB_get {m e : Nat} (h : Nat → Bool) (he : e < m) : (tabB m h)[e]? = some (h e) := by simp [tabB, he]
def updB (h : Nat → Bool) (e : Nat) (v : Bool) : Nat → Bool := fun x => if x = e then v else h x
theorem tabB_set (m : Nat) (h : Nat → Bool) (e : Nat) (v : Bool) : (tabB m h).set e v = tabB m (updB h e v) := by
  apply List.ext_getElem?
  intro i
  rw [List.getElem?_set]
  by_cases hi : i < m
  · rw [tabB_get _ hi, tabB_get _ hi, tabB_length]
    by_cases he : e = i
    · subst he
      simp [hi, updB]
    · rw [if_neg he]
      unfold updB
      rw [if_neg (fun h => he h.symm)]
  · have h1 : (tabB m h)[i]? = none := List.getElem?_eq_none (by rw [tabB_length]; omega)
    have h2 : (tabB m (updB h e v))[i]? = none := List.getElem?_eq_none (by rw [tabB_length]; omega)
    rw [h1, h2, tabB_length]
    split
    · rename_i h3
      subst h3
      simp [hi]
    · rfl
def OwnBl (B : Nat) (w : World) (v : Value) (n : Nat) (l : List Bool) : Prop := w.ownsRow B 4 1 v n (l.map Value.bool)
theorem OwnBl.lt {B n : Nat} {w : World} {v : Value} {l : List Bool} (h : OwnBl B w v n l) : ∀ q, v.ownBlock = some q → B ≤ q ∧ q < w.heap.size := fun q hq => World.ownsRow.lt h q hq
theorem OwnBl.kept {B n : Nat} {w w' : World} {v : Value} {l : List Bool} (h : OwnBl B w v n l) (hk : ∀ q, v.ownBlock = some q → w'.heap[q]? = w.heap[q]?) : OwnBl B w' v n l := owns_kept h hk
theorem OwnBl.below {B n : Nat} {w w' : World} {v : Value} {l : List Bool} (h : OwnBl B w v n l) (hb : Below w.heap.size w w') : OwnBl B w' v n l := h.kept fun q hq => hb.block q (h.lt q hq).2
theorem OwnBl.kind {B n : Nat} {W : World} {v : Value} {l : List Bool} (h : OwnBl B W v n l) {q : Nat} (hq : v.ownBlock = some q) : ∃ cs, W.heap[q]? = some (.cells cs 4) := owns_type' h q hq
theorem OwnBl.frozen {B n : Nat} {W : World} {b c : Nat} {l : List Bool} (h : OwnBl B W (.slice (some ⟨b, 0, none⟩) n c) n l) (j : Nat) : W.frozen? ⟨b, j, none⟩ = false := by
  obtain ⟨cs, hc⟩ := h.kind (q := b) rfl
  simp [World.frozen?, hc]
theorem OwnBl.cell {B n : Nat} {W : World} {b c : Nat} {l : List Bool} (h : OwnBl B W (.slice (some ⟨b, 0, none⟩) n c) n l) {e : Nat} {z : Bool} (hz : l[e]? = some z) : W.cell? ⟨b, e, none⟩ = some (.bool z) := by
  obtain ⟨hl, ao, cap, hv, -, -, -, h5⟩ := owned_slN h
  injection hv with e1 _ _
  rcases h5 with h0 | ⟨b', off, ea, hc⟩
  · exfalso
    rw [h0, List.length_map] at hl
    have := (List.getElem?_eq_some_iff.1 hz).1
    omega
  · rw [ea] at e1
    injection e1 with e1
    injection e1 with e1 e2 _
    subst e1
    subst e2
    have h3 := hc e (.bool z) (by rw [List.getElem?_map, hz]; rfl)
    rwa [Nat.zero_add] at h3
theorem tabB_own {B n : Nat} {W : World} {b : Nat} {h : Nat → Bool} (ho : OwnBl B W (.slice (some ⟨b, 0, none⟩) n n) n (tabB n h)) {e : Nat} (he : e < n) (v : Bool) : OwnBl B (W.setCell ⟨b, e, none⟩ (.bool v)) (.slice (some ⟨b, 0, none⟩) n n) n (tabB n (updB h e v)) := by
  rcases ho.2 with ⟨h0, -⟩ | ⟨g, cap, cur, hv, hg, hh, hnc, hcm, hcs, ht⟩
  · cases h0
  · injection hv with e1 e2 e3
    injection e1 with e1
    injection e1 with e1 _ _
    subst e1
    subst e3
    refine ⟨by rw [List.length_map, tabB_length, Nat.mul_one], .inr ⟨b, n, cur.set! e (.bool v), rfl, hg, ?_, Nat.le_refl _, hcm, by simpa using hcs, ?_⟩⟩
    · simp [World.setCell, Array.getElem?_modify, hh]
    · rw [← tabB_set, List.map_set]
      rw [Nat.mul_one] at ht hcs ⊢
      rw [Array.set!_eq_setIfInBounds, Array.toList_setIfInBounds]
      rw [List.take_of_length_le (by rw [List.length_set, Array.length_toList, hcs]; exact Nat.le_refl _)]
      rw [List.take_of_length_le (by rw [Array.length_toList, hcs]; exact Nat.le_refl _)] at ht
      rw [ht]
theorem made_tabB {B : Nat} {W : World} {q m : Nat} (h : W.ownsRow B 4 1 (.slice (some ⟨q, 0, none⟩) m m) m (madeCells (Value.bool false).cells (m * 1)).toList) : OwnBl B W (.slice (some ⟨q, 0, none⟩) m m) m (tabB m (fun _ => false)) := by
  simp only [Value.cells, Nat.mul_one, toList_madeCells_one] at h
  have e : List.replicate m (Value.bool false) = (tabB m (fun _ => false)).map Value.bool := by
    apply List.ext_getElem?
    intro i
    rw [List.getElem?_map, List.getElem?_replicate]
    by_cases hi : i < m
    · rw [if_pos hi, tabB_get _ hi]; rfl
    · rw [if_neg hi, List.getElem?_eq_none (by rw [tabB_length]; omega)]; rfl
  rw [e] at h
  exact h

set_option maxRecDepth 100000 in
set_option maxHeartbeats 1000000 in
/-- Has an equation's value another size? No. -/
theorem order1_any (p1 p2 : Nat) (fv : Value) (fit : List Qe) (e : Nat) (q : Qe) (size : Nat) (w : World) (hc : w.cell? ⟨p1, 0, none⟩ = some fv) (hs : w.cell? ⟨p2, 0, none⟩ = some (.int .i64 (size : Int))) (hf : Qs w fv fit) (he : fit[e]? = some q) (hq : q.va.length = size) :
    Calls Tryz.prog 60 #[.int .i64 (e : Int), .pointer (some ⟨p1, 0, none⟩), .pointer (some ⟨p2, 0, none⟩)] w fun e w' => e = .returned (.bool false) ∧ Below w.heap.size w w' := by
  obtain ⟨a, c, rfl, h1, h2⟩ := hf.shape
  have hQ := (hf.get (Below.refl _ _) he).2
  obtain ⟨b, off, rfl, c1, c2⟩ := hf.at (Below.refl _ _) he
  obtain ⟨va, vc, ev, hv1, hv2⟩ := bs_shape hQ
  rw [ev, hq] at c2
  rw [hq] at hv1
  have hlt := (List.getElem?_eq_some_iff.1 he).1
  obtain ⟨n, hn⟩ : ∃ n, fit.length = n := ⟨_, rfl⟩
  rw [hn] at hc hlt h1
  clear hQ hf he hq ev hn c1
  go_enter Tryz.func60, Tryz.ntmps60
  go_upto_region 1 with fail
  go_quiet (fail)
  have XL : Hid (Below w.heap.size w (w.drewN nq)) := below_drewN (Below.refl _ _) nq
  go_wp2
  go_ret
  exact ⟨rfl, XL.out⟩

set_option maxRecDepth 100000 in
set_option maxHeartbeats 1000000 in
/-- CLOSED, of a spread. -/
theorem isclosed_any (B p m : Nat) (s : SpS) (e : Nat) (w : World) (hs : Sp B w p s) (hm : s.m = m) (he : e < m) :
    Calls Tryz.prog 61 #[.pointer (some ⟨p, 0, none⟩), .int .i64 (e : Int)] w fun e' w' => e' = .returned (.bool (decide (s.h e = 0))) ∧ w' = w := by
  obtain ⟨-, c1, -, -, -, -, -⟩ := hs.cells
  obtain ⟨lb, hlb⟩ : ∃ x, s.lb = x := ⟨_, rfl⟩
  have el : s.lv = .slice (some ⟨lb, 0, none⟩) m m := by rw [← hlb, ← hm]; rfl
  rw [el] at c1
  have ol := hs.left
  rw [el, hm] at ol
  have ce := ol.cell (tab_get s.h he)
  obtain ⟨z, hz⟩ : ∃ z, s.h e = z := ⟨_, rfl⟩
  rw [hz] at ce ⊢
  clear hs ol el hlb hz hm
  go_enter Tryz.func61, Tryz.ntmps61
  go_wp2
  go_ret
  exact ⟨by first | rfl | (congr 2), rfl⟩

/-- LEAVE, where other values have the same size. -/
theorem leaveOk2 (Wb : World) (p m p1 p2 : Nat) (HL : ∀ (e : Nat) W, Below Wb.heap.size Wb W → e < m → Calls Tryz.prog 60 #[.int .i64 (e : Int), .pointer (some ⟨p1, 0, none⟩), .pointer (some ⟨p2, 0, none⟩)] W fun e w' => e = .returned (.bool false) ∧ Below W.heap.size W w') :
    LeaveOk Wb p m (.func (.func 60) #[] #[.pointer (some ⟨p1, 0, none⟩), .pointer (some ⟨p2, 0, none⟩)]) := fun e v s w hs hb hm he hfv hF => leave2 _ _ Wb p m s e v w hs hb hm he hfv hF HL

end

section
/-
  closure.closedInOrder.
-/
open Go.RowKit
set_option linter.unusedVariables false

def Qe.none : Qe := ⟨.slice .none 0 0, .slice .none 0 0, [], []⟩
def fitQ (all : Int) (es : List Qe) : List Qe := es.filter fun e => fitsI all e.of
theorem fitQ_mem {all : Int} {es : List Qe} {e : Qe} : e ∈ fitQ all es ↔ e ∈ es ∧ FitI all e.of := by
  unfold fitQ
  rw [List.mem_filter, fitsI_iff]
theorem fitQ_next {all : Int} {es : List Qe} {i : Nat} {e : Qe} (h : es[i]? = some e) : fitQ all (es.take (i + 1)) = fitQ all (es.take i) ++ (if fitsI all e.of = true then [e] else []) := by
  obtain ⟨hi, he⟩ := List.getElem?_eq_some_iff.1 h
  unfold fitQ
  rw [List.take_succ_eq_append_getElem hi, he, List.filter_append]
  congr 1
  cases hf : fitsI all e.of <;> simp [hf]
theorem fitQ_of (all : Int) (es : List Qe) : (fitQ all es).map Qe.of = fitF all (es.map Qe.of) := by
  unfold fitQ fitF
  rw [List.filter_map]
  rfl

theorem grown_kind {B n size : Nat} {W W' : World} {e : TypeId} {v : Value} {cs : List Value} (ho : W.ownsRow B e size v n cs) (hg : W.grownBy W' v.ownBlock) {q : Nat} {cs' : Array Value} {t : TypeId} {fr : Nat × Nat} (hq : W.heap[q]? = some (Obj.cells cs' t fr)) (ht : t ≠ e) : W'.heap[q]? = W.heap[q]? :=
  hg.block q (Array.getElem?_eq_some_iff.1 hq).1 fun e1 => by
    obtain ⟨cur, hc⟩ := owns_type' ho q e1.symm
    exact heap_ne hq hc ht rfl
theorem cell_of_heap {W : World} {q : Nat} {u : Value} {t : TypeId} (h : W.heap[q]? = some (.cells #[u] t (0, 0))) : W.cell? ⟨q, 0, none⟩ = some u := by simp [World.cell?, h]
theorem frozen_of_heap {W : World} {q : Nat} {cs : Array Value} {t : TypeId} (h : W.heap[q]? = some (.cells cs t (0, 0))) (j : Nat) : W.frozen? ⟨q, j, none⟩ = false := by simp [World.frozen?, h]
theorem heap_new (W : World) (o : Obj) : (W.alloc o).heap[W.heap.size]? = some o := by
  show (W.heap.push o)[W.heap.size]? = some o
  simp
theorem heap_old {W : World} (o : Obj) {q : Nat} (h : q < W.heap.size) : (W.alloc o).heap[q]? = W.heap[q]? := (below_alloc W o).block q h
theorem OwnE.kind {B n : Nat} {W : World} {v : Value} {l : List Qe} (h : OwnE B W v n l) {q : Nat} (hq : v.ownBlock = some q) : ∃ cs, W.heap[q]? = some (.cells cs 31) := owns_type' h q hq

/-- What stands in the two boxes. -/
structure Boxes (B size : Nat) (fv : Value) (W : World) : Prop where
  b4 : W.heap[B]? = some (.cells #[.int .i64 (size : Int)] 3 (0, 0))
  b7 : W.heap[B + 1]? = some (.cells #[fv] 45 (0, 0))
theorem Boxes.below {B size : Nat} {fv : Value} {W W' : World} (h : Boxes B size fv W) (hb : Below W.heap.size W W') : Boxes B size fv W' :=
  ⟨(hb.block _ (Array.getElem?_eq_some_iff.1 h.b4).1).trans h.b4, (hb.block _ (Array.getElem?_eq_some_iff.1 h.b7).1).trans h.b7⟩
theorem Boxes.grown {B size B0 n sz : Nat} {fv : Value} {W W' : World} (h : Boxes B size fv W) {e : TypeId} {v : Value} {cs : List Value} (ho : W.ownsRow B0 e sz v n cs) (hg : W.grownBy W' v.ownBlock) (h4 : 3 ≠ e) (h7 : 45 ≠ e) : Boxes B size fv W' :=
  ⟨(grown_kind ho hg h.b4 h4).trans h.b4, (grown_kind ho hg h.b7 h7).trans h.b7⟩
theorem Boxes.set {B size : Nat} {fv : Value} {W : World} (h : Boxes B size fv W) (u : Value) : Boxes B size u (W.setCell ⟨B + 1, 0, none⟩ u) :=
  ⟨(heap_set_other _ _ _ _ (by omega)).trans h.b4, by have := box_set (j := 0) h.b7 u; simpa using this⟩

/-- 'append' onto equations of one's own; where they lie then. -/
theorem wpList_addE2 (w : World) {ops : Array Oper} {rest : List Oper} {o : Oper} {a : Act} {Q : Exit → Act → World → Prop} (hgd : o.guard = none) (s x : Operand)
    (ho : o.op = .call { callee := .builtin .append, args := #[s, x], argTypes := #[45, 45] })
    (B : Nat) (v : Value) (n : Nat) (l : List Qe) (hs : a.eval s = v) (hown : OwnE B w v n l)
    (xv : Value) (m : Nat) (news : List Qe) (hx : a.eval x = xv) (hsrc : Sl 2 w xv m (news.flatMap Qe.cells)) (hone : ∀ u ∈ news.flatMap Qe.cells, u.oneCell' = true)
    (hlen : n + m ≤ 1000000000) (hbase : B ≤ w.heap.size)
    (h : ∀ ao cap w', OwnE B w' (.slice ao (n + m) cap) (n + m) (l ++ news) → w.grownBy w' v.ownBlock → ((Value.slice ao (n + m) cap).ownBlock = v.ownBlock ∨ (Value.slice ao (n + m) cap).ownBlock = some w.heap.size) → wpList Tryz.prog ops Q rest (a.put o.dst (.slice ao (n + m) cap)) w') : wpList Tryz.prog ops Q (o :: rest) a w := by
  obtain ⟨i, hi, hz, h1, h8⟩ := infoE_parts
  refine wpList_app w hgd s x 45 ho B 31 i (.agg #[.slice none 0 0, .slice none 0 0]) 2 48 Tryz.underlying45 hi hz h1 h8 rfl (by decide) v n _ hs hown xv m _ hx hsrc hone (by unfold maxLen; omega) (by omega) hbase ?_
  intro ao cap w' h2 h3 h4 h5 h6 h7
  refine h ao cap w' ?_ h3 h4
  unfold OwnE
  rw [List.flatMap_append]
  exact h2

/-- The equations of steps. -/
def aheadQ (fit : List Qe) (ss : List (Nat × Int)) : List Qe := ss.map fun s => fit.getD s.1 Qe.none
theorem aheadQ_next {fit : List Qe} {ss : List (Nat × Int)} {i e : Nat} {b : Int} {q : Qe} (h : ss[i]? = some (e, b)) (hq : fit[e]? = some q) : aheadQ fit (ss.take (i + 1)) = aheadQ fit (ss.take i) ++ [q] := by
  obtain ⟨hi, he⟩ := List.getElem?_eq_some_iff.1 h
  unfold aheadQ
  rw [List.take_succ_eq_append_getElem hi, he, List.map_append]
  simp [hq]
def leadB (ss : List (Nat × Int)) : Nat → Bool := fun e => decide (e ∈ ss.map Prod.fst)
theorem leadB_next {ss : List (Nat × Int)} {i e : Nat} {b : Int} (h : ss[i]? = some (e, b)) : updB (leadB (ss.take i)) e true = leadB (ss.take (i + 1)) := by
  obtain ⟨hi, he⟩ := List.getElem?_eq_some_iff.1 h
  funext x
  unfold updB leadB
  rw [List.take_succ_eq_append_getElem hi, he, List.map_append]
  by_cases hx : x = e
  · subst hx; simp
  · rw [if_neg hx]; simp [hx]
/-- The other closed equations, as far as k. -/
def behindQ (fit : List Qe) (h : Nat → Int) (ss : List (Nat × Int)) (k : Nat) : List Qe := ((List.range k).filter fun e => decide (h e = 0) && !leadB ss e).map fun e => fit.getD e Qe.none
theorem behindQ_next {fit : List Qe} {h : Nat → Int} {ss : List (Nat × Int)} {k : Nat} {q : Qe} (hq : fit[k]? = some q) : behindQ fit h ss (k + 1) = behindQ fit h ss k ++ (if h k = 0 ∧ leadB ss k = false then [q] else []) := by
  unfold behindQ
  rw [List.range_succ, List.filter_append, List.map_append]
  congr 1
  by_cases h1 : h k = 0
  · cases h2 : leadB ss k <;> simp [h1, h2, hq]
  · simp [h1]
theorem behindQ_len (fit : List Qe) (h : Nat → Int) (ss : List (Nat × Int)) (k : Nat) : (behindQ fit h ss k).length ≤ k := by
  unfold behindQ
  rw [List.length_map]
  have := List.length_filter_le (fun e => decide (h e = 0) && !leadB ss e) (List.range k)
  rwa [List.length_range] at this

set_option maxRecDepth 100000 in
set_option maxHeartbeats 4000000 in
theorem order_any (all : Int) (size : Nat) (pv : Value) (es : List Qe) (w : World) (hp : Qs w pv es) (hm0 : es.length ≤ 100000) (hT : (es.map Qe.of).flatten.length ≤ 1000000) (hall : all ≤ 9223372036854775807) (hsz : ∀ e ∈ es, e.va.length = size) :
    Calls Tryz.prog 36 #[.int .i64 all, .int .i64 (size : Int), pv] w fun e w' => ∃ (a : Option Addr) (k c : Nat) (ss : List (Nat × Int)) (h : Nat → Int), e = .returned (.slice a k c) ∧ OwnE w.heap.size w' (.slice a k c) k (aheadQ (fitQ all es) ss ++ behindQ (fitQ all es) h ss (fitQ all es).length) ∧ Deriv ((fitQ all es).map Qe.of) ss ∧ Done ((fitQ all es).map Qe.of) (ss.map Prod.snd) ∧ (∀ (e : Nat) (l : List Int), ((fitQ all es).map Qe.of)[e]? = some l → h e = ((leftZ (ss.map Prod.snd) l).length : Int)) ∧ Below w.heap.size w w' := by
  have HP : Hid (Qs w pv es) := hp
  have HT : Hid ((es.map Qe.of).flatten.length ≤ 1000000) := hT
  have HA : Hid (all ≤ 9223372036854775807) := hall
  have HSZ : Hid (∀ e ∈ es, e.va.length = size) := hsz
  obtain ⟨ib, hib, hb0, hb1, hb2⟩ := info_parts Tryz.infoBool
  obtain ⟨ao, pc, rfl, hp2, hp3⟩ := hp.shape
  obtain ⟨m, hm⟩ : ∃ m, es.length = m := ⟨_, rfl⟩
  have HM : Hid (es.length = m) := hm
  rw [hm] at HP hp2 hm0 ⊢
  clear hp hm hT hall hsz
  go_enter Tryz.func36, Tryz.ntmps36
  go_wp2
  obtain ⟨w1, hw1⟩ : ∃ x, (w.alloc (.cells #[.int .i64 (size : Int)] 3)).alloc (.cells #[.slice none 0 0] 45) = x := ⟨_, rfl⟩
  have BX1 : Hid (Boxes w.heap.size size (.slice none 0 0) w1) := by
    have h1 : (w.alloc (.cells #[.int .i64 (size : Int)] 3)).heap.size = w.heap.size + 1 := by simp
    unfold Hid
    rw [← hw1]
    refine ⟨(heap_old _ (by rw [h1]; omega)).trans (heap_new _ _), ?_⟩
    rw [← h1]
    exact heap_new _ _
  have X1 : Hid (Below w.heap.size w w1) := by unfold Hid; rw [← hw1]; exact (below_alloc _ _).alloc (below_alloc _ _).size _
  rw [hw1]
  clear hw1
  go_loopw [8, 22] (fun rv iv wr => ∃ (i n : Nat) (fa : Option Addr) (fc : Nat) (a : Option Addr) (c : Nat) (us : List Value), i ≤ m ∧ iv = .int .i64 i ∧ rv = .slice a n c ∧ n ≤ i ∧ Hid (OwnE w.heap.size wr (.slice fa n fc) n (fitQ all (es.take i))) ∧ Hid (OwnR w.heap.size wr (.slice a n c) n us) ∧ Hid (LsZ w us ((fitQ all (es.take i)).map Qe.of)) ∧ Hid (Boxes w.heap.size size (.slice fa n fc) wr) ∧ Hid (Below w.heap.size w wr)) (fun _ iv _ => m - (intOf iv).toNat)
  case atStart => exact ⟨0, 0, none, 0, none, 0, [], by omega, rfl, rfl, by omega, OwnE.nil _ _, OwnR.nil _ _, LsZ.nil w, BX1, X1⟩
  case round =>
    clear BX1 X1
    obtain ⟨i, n, fa, fc, a, c, us, hi, rfl, rfl, hni, OE, OO, UU, BX, XX⟩ := hrel
    by_cases hlt : i < m
    · obtain ⟨q, hq⟩ : ∃ q, es[i]? = some q := ⟨_, List.getElem?_eq_getElem (by rw [HM.out]; exact hlt)⟩
      have NX : Hid (fitQ all (es.take (i + 1)) = fitQ all (es.take i) ++ (if fitsI all q.of = true then [q] else [])) := fitQ_next hq
      obtain ⟨b0, off, rfl, c1, c2⟩ := HP.out.at XX.out hq
      have HQ : QeP w q := HP.out.get (Below.refl _ _) hq
      obtain ⟨ov, vv, of, va⟩ := q
      obtain ⟨la, lc, eo, hl2, hl3⟩ := zs_shape HQ.1
      have eo' : ov = .slice la of.length lc := eo
      subst eo'
      obtain ⟨ba, bc, ev, hb2', hb3'⟩ := bs_shape HQ.2
      have ev' : vv = .slice ba va.length bc := ev
      subst ev'
      have HQP : Hid (QeP w ⟨.slice la of.length lc, .slice ba va.length bc, of, va⟩) := HQ
      clear hq HQ eo ev hl2 hl3 hb2' hb3'
      have XB : Hid (Below w.heap.size w (wr.alloc (.cells #[.slice la of.length lc, .slice ba va.length bc] 31))) := XX.out.alloc XX.out.size _
      go_wp2_with fail
      refine (kfits_any all _ of _ (HQP.out.1.below XB.out)).mono ?_
      rintro e w2 ⟨⟨b, rfl, hb⟩, hw2⟩
      have A2 : Below wr.heap.size wr w2 := by rw [hw2]; exact below_alloc _ _
      have h10 : w2.heap[wr.heap.size]? = some (.cells #[.slice la of.length lc, .slice ba va.length bc] 31 (0, 0)) := by rw [hw2]; exact heap_new _ _
      have X2 : Hid (Below w.heap.size w w2) := XX.out.trans (A2.mono XX.out.size)
      have OE2 : Hid (OwnE w.heap.size w2 (.slice fa n fc) n (fitQ all (es.take i))) := OE.out.below A2
      have NE2 : Hid ((Value.slice fa n fc).ownBlock ≠ some wr.heap.size) := fun h => by have := (OE.out.lt _ h).2; omega
      have OO2 : Hid (OwnR w.heap.size w2 (.slice a n c) n us) := OO.out.below A2
      have BX2 : Hid (Boxes w.heap.size size (.slice fa n fc) w2) := BX.out.below A2
      obtain ⟨r, hr⟩ : ∃ x, wr.heap.size = x := ⟨_, rfl⟩
      rw [hr] at h10 NE2 ⊢
      have H10 : Hid (w2.heap[r]? = some (.cells #[.slice la of.length lc, .slice ba va.length bc] 31 (0, 0))) := h10
      clear OE OO BX XX XB A2 hw2 c1 c2 hr h10
      by_cases hf : FitI all of
      · have hbt : b = true := hb.2 hf
        subst hbt
        have NY : Hid (fitQ all (es.take (i + 1)) = fitQ all (es.take i) ++ [⟨.slice la of.length lc, .slice ba va.length bc, of, va⟩]) := by
          have h1 := NX.out
          rw [if_pos (fitsI_iff.2 hf)] at h1
          exact h1
        have U4 : Hid (LsZ w (us ++ [.slice la of.length lc]) ((fitQ all (es.take (i + 1))).map Qe.of)) := by
          unfold Hid
          rw [NY.out, List.map_append]
          exact UU.out.snoc HQP.out.1
        have k7 := cell_of_heap BX2.out.b7
        have k0 : w2.cell? ⟨r, 0, none⟩ = some (.slice la of.length lc) := by simp [World.cell?, H10.out]
        have k1 : w2.cell? ⟨r, 1, none⟩ = some (.slice ba va.length bc) := by simp [World.cell?, H10.out]
        have SZ2 : Hid (w.heap.size ≤ w2.heap.size) := X2.out.size
        have A3 : Below w2.heap.size w2 (w2.alloc (.cells #[.slice la of.length lc, .slice ba va.length bc] 31)) := below_alloc _ _
        have OE3 : Hid (OwnE w.heap.size (w2.alloc (.cells #[.slice la of.length lc, .slice ba va.length bc] 31)) (.slice fa n fc) n (fitQ all (es.take i))) := OE2.out.below A3
        have OO3 : Hid (OwnR w.heap.size (w2.alloc (.cells #[.slice la of.length lc, .slice ba va.length bc] 31)) (.slice a n c) n us) := OO2.out.below A3
        have BX3 : Hid (Boxes w.heap.size size (.slice fa n fc) (w2.alloc (.cells #[.slice la of.length lc, .slice ba va.length bc] 31))) := BX2.out.below A3
        have X3 : Hid (Below w.heap.size w (w2.alloc (.cells #[.slice la of.length lc, .slice ba va.length bc] 31))) := X2.out.trans (A3.mono X2.out.size)
        have H13 : Hid ((w2.alloc (.cells #[.slice la of.length lc, .slice ba va.length bc] 31)).heap[r]? = some (.cells #[.slice la of.length lc, .slice ba va.length bc] 31 (0, 0))) := (A3.block r (Array.getElem?_eq_some_iff.1 H10.out).1).trans H10.out
        have SRC : Hid (Sl 2 (w2.alloc (.cells #[.slice la of.length lc, .slice ba va.length bc] 31)) (.slice (some ⟨w2.heap.size, 0, none⟩) 1 1) 1 ([(⟨.slice la of.length lc, .slice ba va.length bc, of, va⟩ : Qe)].flatMap Qe.cells)) := one_src
        have hn1 : n + 1 ≤ 1000000000 := by omega
        clear hb NX hf UU
        go_upto_region 8 with (at_builtin; refine wpList_addE _ rfl (.tmp 30) (.tmp 32) rfl w.heap.size (.slice fa n fc) n _ rfl OE3.out _ 1 [⟨.slice la of.length lc, .slice ba va.length bc, of, va⟩] rfl SRC.out (e_oneCell (w := w) (by intro e he; rw [List.mem_singleton.1 he]; exact HQP.out)) hn1 X3.out.size ?_; intro a4 k4 w4 ho4 hg4; have BX4 : Boxes w.heap.size size (.slice fa n fc) w4 := BX3.out.grown OE3.out hg4 (by decide) (by decide); have k74 := cell_of_heap BX4.b7; have f74 := frozen_of_heap BX4.b7 0)
        have BX5 : Hid (Boxes w.heap.size size (.slice a4 (n + 1) k4) (w4.setCell ⟨w.heap.size + 1, 0, none⟩ (.slice a4 (n + 1) k4))) := BX4.set _
        have KS : ∀ (q : Nat) (cs : Array Value) (t : TypeId), t ≠ 45 → w4.heap[q]? = some (Obj.cells cs t) → (w4.setCell ⟨w.heap.size + 1, 0, none⟩ (.slice a4 (n + 1) k4)).heap[q]? = w4.heap[q]? := fun q cs t ht hq => heap_set_other _ _ _ _ (heap_ne hq BX4.b7 ht)
        have OE5 : Hid (OwnE w.heap.size (w4.setCell ⟨w.heap.size + 1, 0, none⟩ (.slice a4 (n + 1) k4)) (.slice a4 (n + 1) k4) (n + 1) (fitQ all (es.take (i + 1)))) := by
          unfold Hid
          rw [NY.out]
          exact OwnE.kept ho4 fun q hq => by
            obtain ⟨cs, hc⟩ := OwnE.kind ho4 hq
            exact KS q cs _ (by decide) hc
        have OO5 : Hid (OwnR w.heap.size (w4.setCell ⟨w.heap.size + 1, 0, none⟩ (.slice a4 (n + 1) k4)) (.slice a n c) n us) := OO3.out.kept fun q hq => by
          obtain ⟨cs, hc⟩ := owns_type' OO3.out q hq
          have h1 := grown_kind OE3.out hg4 hc (by decide)
          exact (KS q cs _ (by decide) (h1.trans hc)).trans h1
        have k05 : (w4.setCell ⟨w.heap.size + 1, 0, none⟩ (.slice a4 (n + 1) k4)).cell? ⟨r, 0, none⟩ = some (.slice la of.length lc) := by
          have h1 : w4.heap[r]? = _ := (hg4.block r (Array.getElem?_eq_some_iff.1 H13.out).1 (fun h => NE2 h.symm)).trans H13.out
          have h2 := (KS r _ _ (by decide) h1).trans h1
          simp [World.cell?, h2]
        have X5 : Hid (Below w.heap.size w (w4.setCell ⟨w.heap.size + 1, 0, none⟩ (.slice a4 (n + 1) k4))) := (X3.out.grown hg4 X3.out.size (fun k hk => (OE3.out.lt k hk).1)).setCell (Nat.le_succ _) _
        obtain ⟨w5, hw5⟩ : ∃ x, w4.setCell ⟨w.heap.size + 1, 0, none⟩ (.slice a4 (n + 1) k4) = x := ⟨_, rfl⟩
        rw [hw5] at BX5 OE5 OO5 k05 X5 ⊢
        clear hw5 KS ho4 hg4 BX4 k74 f74 SRC H13 X3 BX3 OO3 OE3 H10 NE2 OE2 OO2 BX2 X2 k7 k0 k1 SZ2 NY
        have OO6 : Hid (OwnR w.heap.size (w5.alloc (.cells #[.slice la of.length lc] 29)) (.slice a n c) n us) := OO5.out.below (below_alloc _ _)
        have X6 : Hid (Below w.heap.size w (w5.alloc (.cells #[.slice la of.length lc] 29))) := X5.out.alloc X5.out.size _
        go_wp2_with (at_builtin; refine wpList_addR _ rfl (.tmp 34) (.tmp 37) rfl w.heap.size (.slice a n c) n us rfl OO6.out _ (.slice la of.length lc) rfl (one_srcV _ _ _) rfl hn1 X6.out.size ?_; intro a7 k7 w7 ho7 hg7)
        have BX7 : Hid (Boxes w.heap.size size (.slice a4 (n + 1) k4) w7) := (BX5.out.below (below_alloc _ _)).grown OO6.out hg7 (by decide) (by decide)
        have OE7 : Hid (OwnE w.heap.size w7 (.slice a4 (n + 1) k4) (n + 1) (fitQ all (es.take (i + 1)))) := (OwnE.below OE5.out (below_alloc _ _)).kept fun q hq => by
          obtain ⟨cs, hc⟩ := OwnE.kind (OwnE.below OE5.out (below_alloc w5 (.cells #[.slice la of.length lc] 29))) hq
          exact grown_kind OO6.out hg7 hc (by decide)
        have X7 : Hid (Below w.heap.size w w7) := X6.out.grown hg7 X6.out.size (fun k hk => (OO6.out.lt k hk).1)
        have OO7 : Hid (OwnR w.heap.size w7 (.slice a7 (n + 1) k7) (n + 1) (us ++ [.slice la of.length lc])) := ho7
        clear hg7 ho7 OO6 X6 OO5 X5 OE5 BX5 k05
        go_roundw
        case rel => exact ⟨i + 1, n + 1, a4, k4, a7, k7, _, by omega, by go_num, rfl, by omega, OE7, OO7, U4, BX7, X7⟩
        case measure => simp [intOf]; omega
      · have hbf : b = false := by cases b with
          | false => rfl
          | true => exact absurd (hb.1 rfl) hf
        subst hbf
        have E4 : Hid (OwnE w.heap.size w2 (.slice fa n fc) n (fitQ all (es.take (i + 1)))) := by
          unfold Hid
          rw [NX.out, if_neg (fun h => hf (fitsI_iff.1 h)), List.append_nil]
          exact OE2.out
        have U4 : Hid (LsZ w us ((fitQ all (es.take (i + 1))).map Qe.of)) := by
          unfold Hid
          rw [NX.out, if_neg (fun h => hf (fitsI_iff.1 h)), List.append_nil]
          exact UU.out
        clear hb NX UU hf OE2
        go_wp2
        go_roundw
        case rel => exact ⟨i + 1, n, fa, fc, a, c, us, by omega, by go_num, rfl, by omega, E4, OO2, U4, BX2, X2⟩
        case measure => simp [intOf]; omega
    · obtain rfl : m = i := by omega
      obtain ⟨w0, hw0⟩ : ∃ x, x = wr := ⟨_, rfl⟩
      subst hw0
      obtain ⟨fit, hfit⟩ : ∃ fit, fitQ all es = fit := ⟨_, rfl⟩
      have HFIT : Hid (fitQ all es = fit) := hfit
      have eT : es.take m = es := List.take_of_length_le (by rw [HM.out]; exact Nat.le_refl _)
      rw [eT, hfit] at OE UU
      have OE0 : Hid (OwnE w.heap.size w0 (.slice fa n fc) n fit) := OE
      have U0 : LsZ w us (fit.map Qe.of) := UU
      have hun : us.length = n := OO.out.len
      have hfn : fit.length = n := OwnE.len OE0.out
      have FM : ∀ q ∈ fit, q ∈ es ∧ FitI all q.of := fun q hq => by rw [← hfit] at hq; exact fitQ_mem.1 hq
      have FMH : Hid (∀ q ∈ fit, q ∈ es ∧ FitI all q.of) := FM
      have QF : Hid (∀ q ∈ fit, QeP w q) := fun q hq => HP.out.2 q (FM q hq).1
      have F1 : ∀ l ∈ fit.map Qe.of, l.Nodup ∧ ∀ x ∈ l, 0 ≤ x ∧ x < 9223372036854775808 := fun l hl => by
        obtain ⟨q, hq, rfl⟩ := List.mem_map.1 hl
        have h2 := (FM q hq).2
        exact ⟨h2.nodup, fun x hx => by have h3 := h2.2 x hx; have h4 := HA.out; omega⟩
      have F2 : (fit.map Qe.of).flatten.length ≤ 1000000 := by
        rw [← hfit, fitQ_of]
        exact Nat.le_trans (fitF_flat all _) HT.out
      have NF : Hid (∀ l ∈ fit.map Qe.of, l.Nodup) := fun l hl => (F1 l hl).1
      have OT : Hid (∀ (e : Nat) W, Below w0.heap.size w0 W → e < n → Calls Tryz.prog 60 #[.int .i64 (e : Int), .pointer (some ⟨w.heap.size + 1, 0, none⟩), .pointer (some ⟨w.heap.size, 0, none⟩)] W fun e w' => e = .returned (.bool false) ∧ Below W.heap.size W w') := fun e W hW he => by
        obtain ⟨q, hq⟩ : ∃ q, fit[e]? = some q := ⟨_, List.getElem?_eq_getElem (by rw [hfn]; exact he)⟩
        have BXW := BX.out.below hW
        exact order1_any (w.heap.size + 1) w.heap.size (.slice fa n fc) fit e q size W (cell_of_heap BXW.b7) (cell_of_heap BXW.b4) ((OwnE.below OE0.out hW).qs fun q hq => ((QF.out q hq).below XX.out).below hW) hq (HSZ.out q (FM q (List.mem_of_getElem? hq)).1)
      have SO : Hid (Calls Tryz.prog 40 #[.slice a n c, .func (.func 60) #[] #[.pointer (some ⟨w.heap.size + 1, 0, none⟩), .pointer (some ⟨w.heap.size, 0, none⟩)]] w0 fun e w' => ∃ (p : Nat) (s : SpS), e = .returned (.pointer (some ⟨p, 0, none⟩)) ∧ Sp w0.heap.size w' p s ∧ Run (fit.map Qe.of) (.func (.func 60) #[] #[.pointer (some ⟨w.heap.size + 1, 0, none⟩), .pointer (some ⟨w.heap.size, 0, none⟩)]) s ∧ Done (fit.map Qe.of) (kn s) ∧ Below w0.heap.size w0 w') := by
        have h1 := OO.out.sl
        rw [← hun] at h1
        rw [← hun]
        exact spreadOf_any (.func 60) #[] _ _ us _ w0 h1 (U0.below XX.out) (by omega) F2 F1 (fun p => leaveOk2 w0 p us.length _ _ (by rw [hun]; exact OT.out))
      have HN : Hid (fit.length = n) := hfn
      clear hfit eT U0 UU hun hfn FM F1 F2 OE
      go_wp2_with fail
      refine SO.out.mono ?_
      rintro e w2 ⟨p, s, rfl, hS, hR, hD, hX⟩
      have SS : Hid (Sp w0.heap.size w2 p s) := hS
      have DD : Hid (Done (fit.map Qe.of) (kn s)) := hD
      obtain ⟨sa, sc, ess, hs2, hs3⟩ := steps_shape hS.steps
      obtain ⟨N, hN⟩ : ∃ N, s.ss.length = N := ⟨_, rfl⟩
      rw [hN] at ess hs2
      have HNN : Hid (s.ss.length = N) := hN
      have ES : Hid (s.ssv = .slice sa N sc) := ess
      have ST : Hid (w2.ownsRow w0.heap.size 99 2 (.slice sa N sc) N (stepCells s.ss)) := by
        have h1 := hS.steps
        rw [ess, hN] at h1
        exact h1
      have DR : Hid (Deriv (fit.map Qe.of) s.ss) := hR.d
      have HSM : Hid (s.m = n) := by unfold Hid; rw [hR.m, List.length_map]; exact HN.out
      have HCL : Hid (∀ (e : Nat) (l : List Int), (fit.map Qe.of)[e]? = some l → s.h e = ((leftZ (kn s) l).length : Int)) := hR.h
      have hssl : N ≤ 300000 := by
        have h1 := hR.len
        rw [List.length_map, HN.out, hN] at h1
        omega
      clear hN ess
      have X2 : Hid (Below w.heap.size w w2) := XX.out.trans (hX.mono XX.out.size)
      have B2 : Hid (Below w0.heap.size w0 w2) := hX
      have OE2 : Hid (OwnE w.heap.size w2 (.slice fa n fc) n fit) := OwnE.below OE0.out hX
      have BX2 : Hid (Boxes w.heap.size size (.slice fa n fc) w2) := BX.out.below hX
      have OT2 : Hid (∀ (e : Nat) W, Below w2.heap.size w2 W → e < n → Calls Tryz.prog 60 #[.int .i64 (e : Int), .pointer (some ⟨w.heap.size + 1, 0, none⟩), .pointer (some ⟨w.heap.size, 0, none⟩)] W fun e w' => e = .returned (.bool false) ∧ Below W.heap.size W w') := fun e W hW he => OT.out e W (B2.out.trans (hW.mono B2.out.size)) he
      have c7 := cell_of_heap BX2.out.b7
      have SZ2 : Hid (w.heap.size ≤ w2.heap.size) := X2.out.size
      clear hS hR hD hX SO OT OO OE0 BX XX
      obtain ⟨fa', fc', ef, hfc1, hfc2⟩ : ∃ a c, Value.slice fa n fc = .slice a n c ∧ n ≤ c ∧ c ≤ maxLen := by obtain ⟨a, c, h1, h2, h3, -⟩ := owned_slice OE2.out; exact ⟨a, c, h1, h2, h3⟩
      injection ef with ef1 _ ef3
      subst ef1
      subst ef3
      unfold maxLen at hfc2
      go_wp2_with (at_make; refine wpList_make_full _ rfl _ _ 125 rfl w2.heap.size 4 ib (.bool false) 1 Tryz.underlying125 hib hb0 hb1 _ _ _ _ n rfl rfl rfl rfl (by rw [hb2]; omega) (by unfold maxLen; omega) (Nat.le_refl _) ?_; intro w3 ho3 hg3; have c63 := (SS.out.below (below_fresh hg3)).cells.2.2.2.2.2.2; rw [ES.out] at c63)
      have TB3 : Hid (OwnBl w2.heap.size w3 (.slice (some ⟨w2.heap.size, 0, none⟩) n n) n (tabB n (leadB (s.ss.take 0)))) := made_tabB ho3
      have B3 : Hid (Below w2.heap.size w2 w3) := below_fresh hg3
      clear ho3 hg3 c7 hfc2
      go_wp2
      go_loopw [13, 52] (fun av iv wx => ∃ (i : Nat) (a : Option Addr) (c : Nat), i ≤ N ∧ iv = .int .i64 i ∧ av = .slice a i c ∧ Hid (OwnE w2.heap.size wx (.slice a i c) i (aheadQ fit (s.ss.take i))) ∧ Hid (OwnBl w2.heap.size wx (.slice (some ⟨w2.heap.size, 0, none⟩) n n) n (tabB n (leadB (s.ss.take i)))) ∧ Hid (Below w2.heap.size w2 wx)) (fun _ iv _ => N - (intOf iv).toNat)
      case atStart => exact ⟨0, none, 0, by omega, rfl, rfl, OwnE.nil _ _, TB3, B3⟩
      case round =>
        clear TB3 B3 c63
        obtain ⟨i, av, ac, hi, rfl, rfl, OA, TB, BB⟩ := hrel
        by_cases hlt : i < N
        · obtain ⟨⟨e, b⟩, he⟩ : ∃ q, s.ss[i]? = some q := ⟨_, List.getElem?_eq_getElem (by rw [HNN.out]; exact hlt)⟩
          obtain ⟨l, hl, -⟩ := DR.out i e b he
          have hen : e < n := by
            have h1 := (List.getElem?_eq_some_iff.1 hl).1
            rw [List.length_map, HN.out] at h1
            exact h1
          obtain ⟨q, hq⟩ : ∃ q, fit[e]? = some q := ⟨_, List.getElem?_eq_getElem (by rw [HN.out]; exact hen)⟩
          obtain ⟨g, gc, eg, g1, g2⟩ := steps_at ST.out he
          injection eg with eg1 eg2 eg3
          subst eg1
          subst eg3
          have c1 : wr.cell? ⟨g, i * 2, none⟩ = some (.int .i64 (e : Int)) := (BB.out.cell (cell_block_lt g1)).trans g1
          have c3 : wr.cell? ⟨g, i * 2 + 1, none⟩ = some (.int .i64 b) := (BB.out.cell (cell_block_lt g2)).trans g2
          have AN : Hid (aheadQ fit (s.ss.take (i + 1)) = aheadQ fit (s.ss.take i) ++ [q]) := aheadQ_next he hq
          have LN : Hid (updB (leadB (s.ss.take i)) e true = leadB (s.ss.take (i + 1))) := leadB_next he
          have HQ0 : QeP w q := QF.out q (List.mem_of_getElem? hq)
          have HQE : Hid (fit[e]? = some q) := hq
          clear g1 g2 he hl hq
          go_upto_region 17 with fail
          obtain ⟨w5, hw5⟩ : ∃ x, wr.alloc (.cells #[.int .i64 (e : Int), .int .i64 b] 99) = x := ⟨_, rfl⟩
          have A5 : Below wr.heap.size wr w5 := by rw [← hw5]; exact below_alloc _ _
          have h5 : w5.heap[wr.heap.size]? = some (.cells #[.int .i64 (e : Int), .int .i64 b] 99 (0, 0)) := by rw [← hw5]; exact heap_new _ _
          obtain ⟨r, hr⟩ : ∃ x, wr.heap.size = x := ⟨_, rfl⟩
          obtain ⟨lb, hlb⟩ : ∃ x, w2.heap.size = x := ⟨_, rfl⟩
          have T5 := TB.out.below A5
          have OA5 : Hid (OwnE w2.heap.size w5 (.slice av i ac) i (aheadQ fit (s.ss.take i))) := OwnE.below OA.out A5
          have B5 : Hid (Below w2.heap.size w2 w5) := BB.out.trans (A5.mono BB.out.size)
          have t5 := T5.cell (tabB_get (leadB (s.ss.take i)) hen)
          have f5 := T5.frozen e
          have T6 := tabB_own T5 hen true
          rw [LN.out] at T6
          have k5 : w5.cell? ⟨wr.heap.size, 0, none⟩ = some (.int .i64 (e : Int)) := by simp [World.cell?, h5]
          have B6 : Hid (Below w2.heap.size w2 (w5.setCell ⟨w2.heap.size, e, none⟩ (.bool true))) := B5.out.setCell (Nat.le_refl _) _
          have T6' : Hid (OwnBl w2.heap.size (w5.setCell ⟨w2.heap.size, e, none⟩ (.bool true)) (.slice (some ⟨w2.heap.size, 0, none⟩) n n) n (tabB n (leadB (s.ss.take (i + 1))))) := T6
          obtain ⟨tcs, htc⟩ := T5.kind (q := w2.heap.size) rfl
          have hrl : wr.heap.size ≠ w2.heap.size := heap_ne h5 htc (by decide)
          have k6 : (w5.setCell ⟨w2.heap.size, e, none⟩ (.bool true)).cell? ⟨wr.heap.size, 0, none⟩ = some (.int .i64 (e : Int)) := by
            have h1 := (heap_set_other w5 w2.heap.size e (.bool true) hrl).trans h5
            simp [World.cell?, h1]
          have OA6 : Hid (OwnE w2.heap.size (w5.setCell ⟨w2.heap.size, e, none⟩ (.bool true)) (.slice av i ac) i (aheadQ fit (s.ss.take i))) := OA5.out.kept fun q hq => by
            obtain ⟨cs, hc⟩ := OwnE.kind OA5.out hq
            exact heap_set_other _ _ _ _ (heap_ne hc htc (by decide))
          rw [hw5]
          rw [hr] at k5 k6 ⊢
          rw [hlb] at t5 f5 k6 ⊢
          have HLB : Hid (w2.heap.size = lb) := hlb
          clear hw5 A5 T5 T6 OA5 B5 h5 hr hlb htc hrl OA TB BB c1 c3 LN
          go_upto_region 18 with fail
          obtain ⟨w6, hw6⟩ : ∃ x, w5.setCell ⟨lb, e, none⟩ (.bool true) = x := ⟨_, rfl⟩
          rw [HLB.out, hw6] at B6 T6' OA6
          rw [hw6] at k6 ⊢
          clear hw6 k5 t5 f5
          have OTE : Hid (Calls Tryz.prog 60 #[.int .i64 (e : Int), .pointer (some ⟨w.heap.size + 1, 0, none⟩), .pointer (some ⟨w.heap.size, 0, none⟩)] w6 fun e w' => e = .returned (.bool false) ∧ Below w6.heap.size w6 w') := OT2.out e w6 (by rw [HLB.out]; exact B6.out) hen
          go_wp2_with fail
          refine OTE.out.mono ?_
          rintro e' w7 ⟨rfl, hb7⟩
          have B7 : Hid (Below lb w2 w7) := B6.out.trans (hb7.mono (by rw [← HLB.out]; exact B6.out.size))
          have T7 : Hid (OwnBl lb w7 (.slice (some ⟨lb, 0, none⟩) n n) n (tabB n (leadB (s.ss.take (i + 1))))) := T6'.out.below hb7
          have OA7 : Hid (OwnE lb w7 (.slice av i ac) i (aheadQ fit (s.ss.take i))) := OwnE.below OA6.out hb7
          have k7 : w7.cell? ⟨r, 0, none⟩ = some (.int .i64 (e : Int)) := (hb7.cell (cell_block_lt k6)).trans k6
          have B7' : Below w2.heap.size w2 w7 := by rw [HLB.out]; exact B7.out
          have BX7 := BX2.out.below B7'
          have c77 := cell_of_heap BX7.b7
          have Q7 : Qs w7 (.slice fa n fc) fit := (OwnE.below OE2.out B7').qs fun q hq => ((QF.out q hq).below X2.out).below B7'
          obtain ⟨b0, off, rfl, c1, c2⟩ := Q7.at (Below.refl _ _) HQE.out
          obtain ⟨ov, vv, of, va⟩ := q
          obtain ⟨la, lc, eo, hl2, hl3⟩ := zs_shape HQ0.1
          have eo' : ov = .slice la of.length lc := eo
          subst eo'
          obtain ⟨ba, bc, ev, hb2', hb3'⟩ := bs_shape HQ0.2
          have ev' : vv = .slice ba va.length bc := ev
          subst ev'
          have HQP : Hid (QeP w ⟨.slice la of.length lc, .slice ba va.length bc, of, va⟩) := HQ0
          have OA8 : Hid (OwnE lb (w7.alloc (.cells #[.slice la of.length lc, .slice ba va.length bc] 31)) (.slice av i ac) i (aheadQ fit (s.ss.take i))) := OwnE.below OA7.out (below_alloc _ _)
          have T8 : Hid (OwnBl lb (w7.alloc (.cells #[.slice la of.length lc, .slice ba va.length bc] 31)) (.slice (some ⟨lb, 0, none⟩) n n) n (tabB n (leadB (s.ss.take (i + 1))))) := T7.out.below (below_alloc _ _)
          have B8 : Hid (Below lb w2 (w7.alloc (.cells #[.slice la of.length lc, .slice ba va.length bc] 31))) := B7.out.alloc (by rw [← HLB.out]; exact B7'.size) _
          have SZ8 : Hid (lb ≤ (w7.alloc (.cells #[.slice la of.length lc, .slice ba va.length bc] 31)).heap.size) := by unfold Hid; rw [← HLB.out]; exact Nat.le_trans B7'.size (below_alloc _ _).size
          have hi9 : i + 1 ≤ 1000000000 := by omega
          clear hb7 B6 T6' OA6 k6 OTE Q7 HQ0 eo ev hl2 hl3 hb2' hb3' BX7 T7 OA7 B7 B7'
          go_wp2_with (at_builtin; refine wpList_addE _ rfl (.tmp 65) (.tmp 71) rfl lb (.slice av i ac) i _ rfl OA8.out _ 1 [⟨.slice la of.length lc, .slice ba va.length bc, of, va⟩] rfl one_src (e_oneCell (w := w) (by intro e he; rw [List.mem_singleton.1 he]; exact HQP.out)) hi9 SZ8.out ?_; intro a9 k9 w9 ho9 hg9)
          have OA9 : Hid (OwnE w2.heap.size w9 (.slice a9 (i + 1) k9) (i + 1) (aheadQ fit (s.ss.take (i + 1)))) := by unfold Hid; rw [AN.out, HLB.out]; exact ho9
          have T9 : Hid (OwnBl w2.heap.size w9 (.slice (some ⟨w2.heap.size, 0, none⟩) n n) n (tabB n (leadB (s.ss.take (i + 1))))) := by
            unfold Hid
            rw [HLB.out]
            exact T8.out.kept fun q hq => by
              obtain ⟨cs, hc⟩ := T8.out.kind hq
              exact grown_kind OA8.out hg9 hc (by decide)
          have B9 : Hid (Below w2.heap.size w2 w9) := by unfold Hid; rw [HLB.out]; exact B8.out.grown hg9 SZ8.out (fun k hk => (OwnE.lt OA8.out k hk).1)
          rw [← HLB.out]
          clear ho9 hg9 OA8 T8 B8 SZ8 c77 c1 c2 k7
          go_roundw
          case rel => exact ⟨i + 1, a9, k9, by omega, by go_num, rfl, OA9, T9, B9⟩
          case measure => simp [intOf]; omega
        · obtain rfl : N = i := by omega
          have eT : s.ss.take N = s.ss := List.take_of_length_le (by rw [HNN.out]; exact Nat.le_refl _)
          rw [eT] at OA TB
          obtain ⟨w3', hw3⟩ : ∃ x, x = wr := ⟨_, rfl⟩
          subst hw3
          have c7 := cell_of_heap (BX2.out.below BB.out).b7
          go_wp2
          have SZ3 : Hid (w2.heap.size ≤ w3'.heap.size) := BB.out.size
          have hn3 : n ≤ 100000 := by omega
          go_loopw [14, 76] (fun bv iv wr => ∃ (k nb : Nat) (a : Option Addr) (c : Nat), k ≤ n ∧ iv = .int .i64 k ∧ bv = .slice a nb c ∧ nb ≤ k ∧ Hid (OwnE w2.heap.size wr (.slice a nb c) nb (behindQ fit s.h s.ss k)) ∧ Hid (OwnE w2.heap.size wr (.slice av N ac) N (aheadQ fit s.ss)) ∧ Hid (OwnBl w2.heap.size wr (.slice (some ⟨w2.heap.size, 0, none⟩) n n) n (tabB n (leadB s.ss))) ∧ Hid (Below w2.heap.size w2 wr) ∧ Hid (∀ q, (Value.slice a nb c).ownBlock = some q → (Value.slice av N ac).ownBlock ≠ some q)) (fun _ iv _ => n - (intOf iv).toNat)
          case atStart => exact ⟨0, 0, none, 0, by omega, rfl, rfl, by omega, OwnE.nil _ _, OA, TB, BB, (by intro q hq; cases hq)⟩
          case round =>
            clear OA TB BB c7 SZ3
            obtain ⟨k, nb, ba0, bc0, hk, rfl, rfl, hnb, OBh, OA, TB, BB, NE⟩ := hrel
            by_cases hlt3 : k < n
            · obtain ⟨q, hq⟩ : ∃ q, fit[k]? = some q := ⟨_, List.getElem?_eq_getElem (by rw [HN.out]; exact hlt3)⟩
              have BN : Hid (behindQ fit s.h s.ss (k + 1) = behindQ fit s.h s.ss k ++ (if s.h k = 0 ∧ leadB s.ss k = false then [q] else [])) := behindQ_next hq
              have Q3 : Qs wr (.slice fa n fc) fit := (OwnE.below OE2.out BB.out).qs fun q hq => ((QF.out q hq).below X2.out).below BB.out
              have HQ0 : QeP w q := QF.out q (List.mem_of_getElem? hq)
              obtain ⟨b0, off, rfl, c1, c2⟩ := Q3.at (Below.refl _ _) hq
              obtain ⟨ov, vv, of, va⟩ := q
              obtain ⟨la, lc, eo, hl2, hl3⟩ := zs_shape HQ0.1
              have eo' : ov = .slice la of.length lc := eo
              subst eo'
              obtain ⟨ba, bc, ev, hb2', hb3'⟩ := bs_shape HQ0.2
              have ev' : vv = .slice ba va.length bc := ev
              subst ev'
              have HQP : Hid (QeP w ⟨.slice la of.length lc, .slice ba va.length bc, of, va⟩) := HQ0
              clear Q3 HQ0 eo ev hl2 hl3 hb2' hb3' hq
              go_upto_region 24 with fail
              obtain ⟨w5, hw5⟩ : ∃ x, wr.alloc (.cells #[.slice la of.length lc, .slice ba va.length bc] 31) = x := ⟨_, rfl⟩
              have A5 : Below wr.heap.size wr w5 := by rw [← hw5]; exact below_alloc _ _
              have h5 : w5.heap[wr.heap.size]? = some (.cells #[.slice la of.length lc, .slice ba va.length bc] 31 (0, 0)) := by rw [← hw5]; exact heap_new _ _
              have B5 : Hid (Below w2.heap.size w2 w5) := BB.out.trans (A5.mono BB.out.size)
              have OB5 : Hid (OwnE w2.heap.size w5 (.slice ba0 nb bc0) nb (behindQ fit s.h s.ss k)) := OwnE.below OBh.out A5
              have OA5 : Hid (OwnE w2.heap.size w5 (.slice av N ac) N (aheadQ fit s.ss)) := OwnE.below OA.out A5
              have T5 : Hid (OwnBl w2.heap.size w5 (.slice (some ⟨w2.heap.size, 0, none⟩) n n) n (tabB n (leadB s.ss))) := TB.out.below A5
              have t5 := T5.out.cell (tabB_get (leadB s.ss) hlt3)
              have k50 : w5.cell? ⟨wr.heap.size, 0, none⟩ = some (.slice la of.length lc) := by simp [World.cell?, h5]
              have k51 : w5.cell? ⟨wr.heap.size, 1, none⟩ = some (.slice ba va.length bc) := by simp [World.cell?, h5]
              have CL : Hid (Calls Tryz.prog 61 #[.pointer (some ⟨p, 0, none⟩), .int .i64 (k : Int)] w5 fun e' w' => e' = .returned (.bool (decide (s.h k = 0))) ∧ w' = w5) := isclosed_any w0.heap.size p n s k w5 (SS.out.below B5.out) HSM.out hlt3
              have OTE : Hid (Calls Tryz.prog 60 #[.int .i64 (k : Int), .pointer (some ⟨w.heap.size + 1, 0, none⟩), .pointer (some ⟨w.heap.size, 0, none⟩)] w5 fun e w' => e = .returned (.bool false) ∧ Below w5.heap.size w5 w') := OT2.out k w5 B5.out hlt3
              obtain ⟨r, hr⟩ : ∃ x, wr.heap.size = x := ⟨_, rfl⟩
              rw [hr] at k50 k51
              rw [hw5, hr]
              clear hw5 A5 h5 OBh OA TB BB hr
              obtain ⟨ld, hld⟩ : ∃ x, leadB s.ss k = x := ⟨_, rfl⟩
              rw [hld] at t5 BN
              clear hld
              go_wp2_with fail
              refine CL.out.mono ?_
              rintro e w6 ⟨rfl, rfl⟩
              by_cases hz : s.h k = 0
              · have d : decide (s.h k = 0) = true := decide_eq_true hz
                rw [d]
                clear d CL
                cases ld with
                | true =>
                  have O6 : Hid (OwnE w2.heap.size w6 (.slice ba0 nb bc0) nb (behindQ fit s.h s.ss (k + 1))) := by
                    unfold Hid
                    rw [BN.out, if_neg (by simp), List.append_nil]
                    exact OB5.out
                  clear hz BN OB5
                  go_wp2
                  go_roundw
                  case rel => exact ⟨k + 1, nb, ba0, bc0, by omega, by go_num, rfl, by omega, O6, OA5, T5, B5, NE⟩
                  case measure => simp [intOf]; omega
                | false =>
                  have BY : Hid (behindQ fit s.h s.ss (k + 1) = behindQ fit s.h s.ss k ++ [⟨.slice la of.length lc, .slice ba va.length bc, of, va⟩]) := by
                    have h1 := BN.out
                    rw [if_pos ⟨hz, rfl⟩] at h1
                    exact h1
                  clear hz BN
                  go_wp2_with fail
                  refine OTE.out.mono ?_
                  rintro e w7 ⟨rfl, hb7⟩
                  have B7 : Hid (Below w2.heap.size w2 w7) := B5.out.trans (hb7.mono B5.out.size)
                  have OB8 : Hid (OwnE w2.heap.size (w7.alloc (.cells #[.slice la of.length lc, .slice ba va.length bc] 31)) (.slice ba0 nb bc0) nb (behindQ fit s.h s.ss k)) := OwnE.below (OwnE.below OB5.out hb7) (below_alloc _ _)
                  have OA8 : Hid (OwnE w2.heap.size (w7.alloc (.cells #[.slice la of.length lc, .slice ba va.length bc] 31)) (.slice av N ac) N (aheadQ fit s.ss)) := OwnE.below (OwnE.below OA5.out hb7) (below_alloc _ _)
                  have T8 : Hid (OwnBl w2.heap.size (w7.alloc (.cells #[.slice la of.length lc, .slice ba va.length bc] 31)) (.slice (some ⟨w2.heap.size, 0, none⟩) n n) n (tabB n (leadB s.ss))) := (T5.out.below hb7).below (below_alloc _ _)
                  have B8 : Hid (Below w2.heap.size w2 (w7.alloc (.cells #[.slice la of.length lc, .slice ba va.length bc] 31))) := B7.out.alloc B7.out.size _
                  have m0 : w7.cell? ⟨r, 0, none⟩ = some (.slice la of.length lc) := (hb7.cell (cell_block_lt k50)).trans k50
                  have m1 : w7.cell? ⟨r, 1, none⟩ = some (.slice ba va.length bc) := (hb7.cell (cell_block_lt k51)).trans k51
                  have hn9 : nb + 1 ≤ 1000000000 := by omega
                  clear hb7 OB5 OA5 T5 B5 k50 k51 t5 OTE
                  go_wp2_with (at_builtin; refine wpList_addE2 _ rfl (.tmp 97) (.tmp 99) rfl w2.heap.size (.slice ba0 nb bc0) nb _ rfl OB8.out _ 1 [⟨.slice la of.length lc, .slice ba va.length bc, of, va⟩] rfl one_src (e_oneCell (w := w) (by intro e he; rw [List.mem_singleton.1 he]; exact HQP.out)) hn9 B8.out.size ?_; intro a9 k9 w9 ho9 hg9 hat9)
                  have O9 : Hid (OwnE w2.heap.size w9 (.slice a9 (nb + 1) k9) (nb + 1) (behindQ fit s.h s.ss (k + 1))) := by unfold Hid; rw [BY.out]; exact ho9
                  have OA9 : Hid (OwnE w2.heap.size w9 (.slice av N ac) N (aheadQ fit s.ss)) := OA8.out.kept fun q hq => hg9.block q (OwnE.lt OA8.out q hq).2 (fun e1 => NE.out q e1.symm hq)
                  have T9 : Hid (OwnBl w2.heap.size w9 (.slice (some ⟨w2.heap.size, 0, none⟩) n n) n (tabB n (leadB s.ss))) := T8.out.kept fun q hq => by
                    obtain ⟨cs, hc⟩ := T8.out.kind hq
                    exact grown_kind OB8.out hg9 hc (by decide)
                  have B9 : Hid (Below w2.heap.size w2 w9) := B8.out.grown hg9 B8.out.size (fun k hk => (OwnE.lt OB8.out k hk).1)
                  have NE9 : Hid (∀ q, (Value.slice a9 (nb + 1) k9).ownBlock = some q → (Value.slice av N ac).ownBlock ≠ some q) := by
                    intro q hq hq2
                    rcases hat9 with h1 | h1
                    · exact NE.out q (by rw [← h1]; exact hq) hq2
                    · rw [h1] at hq
                      have h2 := Option.some.inj hq
                      have h3 := (OwnE.lt OA8.out q hq2).2
                      omega
                  clear ho9 hg9 hat9 OB8 OA8 T8 B8 BY NE m0 m1
                  go_roundw
                  case rel => exact ⟨k + 1, nb + 1, a9, k9, by omega, by go_num, rfl, by omega, O9, OA9, T9, B9, NE9⟩
                  case measure => simp [intOf]; omega
              · have d : decide (s.h k = 0) = false := decide_eq_false hz
                rw [d]
                have O6 : Hid (OwnE w2.heap.size w6 (.slice ba0 nb bc0) nb (behindQ fit s.h s.ss (k + 1))) := by
                  unfold Hid
                  rw [BN.out, if_neg (fun h => hz h.1), List.append_nil]
                  exact OB5.out
                clear d CL hz BN OB5
                go_wp2
                go_roundw
                case rel => exact ⟨k + 1, nb, ba0, bc0, by omega, by go_num, rfl, by omega, O6, OA5, T5, B5, NE⟩
                case measure => simp [intOf]; omega
            · obtain rfl : n = k := by omega
              have hn9 : N + nb ≤ 1000000000 := by omega
              have QB : Hid (∀ u ∈ (behindQ fit s.h s.ss n).flatMap Qe.cells, u.oneCell' = true) := e_oneCell (w := w) fun q hq => by
                obtain ⟨e, he, rfl⟩ := List.mem_map.1 hq
                have h1 := List.mem_range.1 (List.mem_filter.1 he).1
                have h2 : fit[e]? = some (fit.getD e Qe.none) := by
                  have h3 : e < fit.length := by rw [HN.out]; exact h1
                  simp [h3]
                exact QF.out _ (List.mem_of_getElem? h2)
              have SB : Hid (Sl 2 wr (.slice ba0 nb bc0) nb ((behindQ fit s.h s.ss n).flatMap Qe.cells)) := owned_slN OBh.out
              go_wp2_with (at_builtin; refine wpList_addE _ rfl (.tmp 102) (.tmp 103) rfl w2.heap.size (.slice av N ac) N _ rfl OA.out _ nb (behindQ fit s.h s.ss n) rfl SB.out QB.out hn9 BB.out.size ?_; intro a9 k9 w9 ho9 hg9)
              have B9 : Hid (Below w.heap.size w w9) := (X2.out.trans (BB.out.mono X2.out.size)).grown hg9 (Nat.le_trans X2.out.size BB.out.size) (fun k hk => Nat.le_trans X2.out.size (OwnE.lt OA.out k hk).1)
              first | go_ret | go_end0
              refine ⟨a9, N + nb, k9, s.ss, s.h, rfl, ?_, ?_, ?_, ?_, B9.out⟩
              · rw [HFIT.out, HN.out]
                exact OwnE.mono ho9 X2.out.size
              · rw [HFIT.out]; exact DR.out
              · rw [HFIT.out]; exact DD.out
              · rw [HFIT.out]; exact HCL.out

end

section
/-
  closure.without.
-/
open Go.RowKit
set_option linter.unusedVariables false

theorem Tryz.zeroBs (w : World) : (zeroValue 25).run Tryz.prog w = .ok (.slice none 0 0) w := by kernel_rfl
/-- What a map of values says: the values of some blocks. -/
def VmP (w : World) (f : Int → Option Value) (K : List Int) (V : Int → List UInt8) (size : Nat) : Prop := ∀ b : Int, (b ∈ K → ∃ v, f b = some v ∧ Bs w v (V b) ∧ (V b).length = size) ∧ (b ∉ K → f b = none)
theorem VmP.below {w w' : World} {f : Int → Option Value} {K : List Int} {V : Int → List UInt8} {size : Nat} (h : VmP w f K V size) (hb : Below w.heap.size w w') : VmP w' f K V size := fun b => ⟨fun hk => by obtain ⟨v, h1, h2, h3⟩ := (h b).1 hk; exact ⟨v, h1, h2.below hb, h3⟩, (h b).2⟩

set_option maxRecDepth 100000 in
set_option maxHeartbeats 2000000 in
/-- WITHOUT: what is left of an equation. -/
theorem without_any (ov vv : Value) (of : List Int) (va : List UInt8) (mb k : Nat) (f : Int → Option Value) (K : List Int) (V : Int → List UInt8) (size : Nat) (w : World) (hz : Zs w ov of) (hv : Bs w vv va) (hm : MpO w mb k f) (hf : VmP w f K V size) (hsz : va.length = size) (hs1 : size ≤ 1000000) (hn1 : of.length ≤ 1000000) (hwf : ∀ z ∈ of, (Lit.int .i64 z).wf = true) :
    Calls Tryz.prog 37 #[.agg #[ov, vv], .map (some mb)] w fun e w' => ∃ (oa : Option Addr) (on oc : Nat) (xa : Option Addr) (xc : Nat), e = .returned (.agg #[.slice oa on oc, .slice xa size xc]) ∧ OwnZ w.heap.size w' (.slice oa on oc) on (leftZ K of) ∧ OwB w.heap.size w' (.slice xa size xc) size (xorAll va ((knZ K of).map V)) ∧ Below w.heap.size w w' := by
  have HZ : Hid (Zs w ov of) := hz
  have HV : Hid (Bs w vv va) := hv
  have HM : Hid (MpO w mb k f) := hm
  have HF : Hid (VmP w f K V size) := hf
  have HW : Hid (∀ z ∈ of, (Lit.int .i64 z).wf = true) := hwf
  have HS : Hid (va.length = size) := hsz
  obtain ⟨ao, oc0, rfl, ho2, ho3⟩ := zs_shape hz
  obtain ⟨av, vc0, rfl, hv2, hv3⟩ := bs_shape hv
  obtain ⟨n, hn⟩ : ∃ n, of.length = n := ⟨_, rfl⟩
  have HN : Hid (of.length = n) := hn
  rw [hn] at HZ ho2 hn1 ⊢
  rw [hsz] at HV hv2 ⊢
  clear hz hv hm hf hwf hsz hn
  go_enter Tryz.func37, Tryz.ntmps37
  go_wp2_with fail
  refine (bclone_any _ va size _ (HV.out.below ((below_alloc w _).alloc (below_alloc w _).size _)) HS.out (by omega)).mono ?_
  rintro e w1 ⟨xa, xc, rfl, ho, hb⟩
  have SZ0 : ((w.alloc (.cells #[.slice ao n oc0, .slice av size vc0] 31)).alloc (.cells #[.slice none 0 0, .slice none 0 0] 31)).heap.size = w.heap.size + 2 := by simp
  have A0 : Below w.heap.size w ((w.alloc (.cells #[.slice ao n oc0, .slice av size vc0] 31)).alloc (.cells #[.slice none 0 0, .slice none 0 0] 31)) := (below_alloc w _).alloc (below_alloc w _).size _
  have X1 : Hid (Below w.heap.size w w1) := A0.trans (hb.mono A0.size)
  have E21 : EqX w1 w.heap.size (.slice ao n oc0) (.slice av size vc0) := (EqX.below ((EqX.new w _ _).below (below_alloc _ _)) hb)
  have E41 : EqX w1 (w.heap.size + 1) (.slice none 0 0) (.slice none 0 0) := by
    have h1 := EqX.new (w.alloc (.cells #[.slice ao n oc0, .slice av size vc0] 31)) (.slice none 0 0) (.slice none 0 0)
    have h2 : (w.alloc (.cells #[.slice ao n oc0, .slice av size vc0] 31)).heap.size = w.heap.size + 1 := by simp
    rw [h2] at h1
    exact h1.below hb
  have S1 : Hid (w.heap.size + 2 ≤ w1.heap.size) := by have := hb.size; unfold Hid; omega
  have O1 : Hid (OwB w.heap.size w1 (.slice xa size xc) size va) := OwB.mono ho A0.size
  have OL : Hid (∀ q, (Value.slice xa size xc).ownBlock = some q → w.heap.size + 2 ≤ q ∧ q < w1.heap.size) := fun q hq => by have := ho.lt q hq; omega
  obtain ⟨e20, e21⟩ := E21.eqb
  have e25 : (w1.alloc (.cells #[.slice none 0 0, .slice xa size xc] 31)).cell? ⟨w.heap.size, 0, none⟩ = some (.slice ao n oc0) := (E21.below (below_alloc _ _)).eqb.1
  clear ho hb SZ0 A0
  go_wp2
  obtain ⟨w2, hw2⟩ : ∃ x, w1.alloc (.cells #[.slice none 0 0, .slice xa size xc] 31) = x := ⟨_, rfl⟩
  have A2 : Below w1.heap.size w1 w2 := by rw [← hw2]; exact below_alloc _ _
  have E5 : Hid (EqX w2 w1.heap.size (.slice none 0 0) (.slice xa size xc)) := by unfold Hid; rw [← hw2]; exact EqX.new _ _ _
  have E4 : Hid (EqX w2 (w.heap.size + 1) (.slice none 0 0) (.slice none 0 0)) := E41.below A2
  have X2 : Hid (Below w.heap.size w w2) := X1.out.trans (A2.mono X1.out.size)
  have O2 : Hid (OwB w.heap.size w2 (.slice xa size xc) size va) := OwB.below O1.out A2
  obtain ⟨p5, hp5⟩ : ∃ x, w1.heap.size = x := ⟨_, rfl⟩
  rw [hp5] at E5 S1 OL ⊢
  rw [hw2]
  clear hw2 A2 E21 E41 e20 e21 e25 O1 X1 hp5
  go_loopw [17] (fun iv wr => ∃ (i m c : Nat) (a : Option Addr), i ≤ n ∧ iv = .int .i64 i ∧ m ≤ i ∧ Hid (EqX wr p5 (.slice a m c) (.slice xa size xc)) ∧ Hid (OwnZ w.heap.size wr (.slice a m c) m (leftZ K (of.take i))) ∧ Hid (OwB w.heap.size wr (.slice xa size xc) size (xorAll va ((knZ K (of.take i)).map V))) ∧ Hid (EqX wr (w.heap.size + 1) (.slice none 0 0) (.slice none 0 0)) ∧ Hid (Below w.heap.size w wr)) (fun iv _ => n - (intOf iv).toNat)
  case atStart => exact ⟨0, 0, 0, none, by omega, rfl, by omega, E5, OwnZ.nil _ _, O2, E4, X2⟩
  case round =>
    clear E5 O2 E4 X2
    obtain ⟨i, m, c, a, hi, rfl, hmi, E5, OZ, OB, E4, XX⟩ := hrel
    obtain ⟨k0, k1⟩ := E5.out.eqb
    by_cases hlt : i < n
    · obtain ⟨z, hzi⟩ : ∃ z, of[i]? = some z := ⟨_, List.getElem?_eq_getElem (by rw [HN.out]; exact hlt)⟩
      have HZ' : Zs w (.slice ao n oc0) of := HZ.out
      obtain ⟨b0, off, rfl, ci⟩ := zs_at HZ' XX.out hzi
      have wz := HW.out z (List.mem_of_getElem? hzi)
      have LX : Hid (leftZ K (of.take (i + 1)) = leftZ K (of.take i) ++ (if z ∈ K then [] else [z])) := leftZ_take hzi
      have KX : Hid (knZ K (of.take (i + 1)) = knZ K (of.take i) ++ (if z ∈ K then [z] else [])) := knZ_take hzi
      have LK := (HM.out.below XX.out).look2 Tryz.underlying86 (Tryz.zeroBs wr) wz
      clear hzi HZ'
      by_cases hzk : z ∈ K
      · obtain ⟨v, hfv, hbv, hvl⟩ := (HF.out z).1 hzk
        obtain ⟨ya, yc, rfl, hy2, hy3⟩ := bs_shape hbv
        have BV : Hid (Bs w (.slice ya (V z).length yc) (V z)) := hbv
        have VL : Hid ((V z).length = size) := hvl
        rw [hfv] at LK
        simp only [Option.getD_some, Option.isSome_some] at LK
        have LX' : Hid (leftZ K (of.take (i + 1)) = leftZ K (of.take i)) := by
          have h1 := LX.out
          rw [if_pos hzk, List.append_nil] at h1
          exact h1
        have KX' : Hid (xorAll va ((knZ K (of.take (i + 1))).map V) = xorL (xorAll va ((knZ K (of.take i)).map V)) (V z)) := by
          have h1 := KX.out
          rw [if_pos hzk] at h1
          unfold Hid
          rw [h1, List.map_append, xorAll_append]
          rfl
        clear LX KX hfv hbv hvl hy2 hzk wz
        go_wp2_with fail
        refine (xor_own w.heap.size xa size xc _ (V z) (.slice ya (V z).length yc) wr OB.out (BV.out.below XX.out) VL.out (fun q hq => BV.out.off_new (by have := (OL.out q (by rw [hq]; rfl)).1; omega)) _ rfl).mono ?_
        rintro e w6 ⟨rfl, ho, hg⟩
        have O6 : Hid (OwB w.heap.size w6 (.slice xa size xc) size (xorAll va ((knZ K (of.take (i + 1))).map V))) := by rw [KX'.out]; exact ho
        have NE : ∀ q, (∀ cs, wr.heap[q]? ≠ some (Obj.cells cs 5)) → q < wr.heap.size → w6.heap[q]? = wr.heap[q]? := fun q hne hq => by
          have h0 : (wr.alloc (.cells #[.slice ya (V z).length yc] 25)).heap[q]? = wr.heap[q]? := heap_old _ hq
          refine (hg.block q (Nat.lt_of_lt_of_le hq (below_alloc _ _).size) (fun e1 => ?_)).trans h0
          obtain ⟨cs, hc⟩ := owns_type' OB.out q e1.symm
          exact hne cs hc
        have Z6 : Hid (OwnZ w.heap.size w6 (.slice a m c) m (leftZ K (of.take (i + 1)))) := by
          rw [LX'.out]
          exact OZ.out.kept fun q hq => NE q (fun cs hc => by
            obtain ⟨cs', hc'⟩ := owns_type' OZ.out q hq
            exact heap_ne hc hc' (by decide) rfl) (OZ.out.lt q hq).2
        have E56 : Hid (EqX w6 p5 (.slice a m c) (.slice xa size xc)) := E5.out.kept (NE p5 (fun cs hc => heap_ne hc E5.out (by decide) rfl) E5.out.lt)
        have E46 : Hid (EqX w6 (w.heap.size + 1) (.slice none 0 0) (.slice none 0 0)) := E4.out.kept (NE _ (fun cs hc => heap_ne hc E4.out (by decide) rfl) E4.out.lt)
        have X6 : Hid (Below w.heap.size w w6) := (XX.out.alloc XX.out.size _).grown hg (Nat.le_trans XX.out.size (below_alloc _ _).size) (fun q hq => by have := (OL.out q hq).1; omega)
        clear ho hg NE k0 k1 ci LK E5 OZ OB E4 XX LX' KX'
        go_wp2
        go_roundw
        case rel => exact ⟨i + 1, m, c, a, by omega, by go_num, by omega, E56, Z6, O6, E46, X6⟩
        case measure => simp [intOf]; omega
      · have hfv := (HF.out z).2 hzk
        rw [hfv] at LK
        simp only [Option.getD_none, Option.isSome_none] at LK
        have LX' : Hid (leftZ K (of.take (i + 1)) = leftZ K (of.take i) ++ [z]) := by
          have h1 := LX.out
          rw [if_neg hzk] at h1
          exact h1
        have KX' : Hid (knZ K (of.take (i + 1)) = knZ K (of.take i)) := by
          have h1 := KX.out
          rw [if_neg hzk, List.append_nil] at h1
          exact h1
        have OZ4 : Hid (OwnZ w.heap.size (wr.alloc (.cells #[.int .i64 z] 3)) (.slice a m c) m (leftZ K (of.take i))) := OZ.out.alloc _
        have OB4 : Hid (OwB w.heap.size (wr.alloc (.cells #[.int .i64 z] 3)) (.slice xa size xc) size (xorAll va ((knZ K (of.take i)).map V))) := OwB.alloc OB.out _
        have E54 : Hid (EqX (wr.alloc (.cells #[.int .i64 z] 3)) p5 (.slice a m c) (.slice xa size xc)) := E5.out.below (below_alloc _ _)
        have E44 : Hid (EqX (wr.alloc (.cells #[.int .i64 z] 3)) (w.heap.size + 1) (.slice none 0 0) (.slice none 0 0)) := E4.out.below (below_alloc _ _)
        have X4 : Hid (Below w.heap.size w (wr.alloc (.cells #[.int .i64 z] 3))) := XX.out.alloc XX.out.size _
        have hm9 : m + 1 ≤ 1000000000 := by omega
        clear LX KX hfv hzk wz OZ OB E5 E4 XX
        go_wp2_with (at_builtin; refine wpList_addZ _ rfl (.tmp 34) (.tmp 36) rfl w.heap.size (.slice a m c) m _ rfl OZ4.out _ 1 [z] rfl (zs_one _ _ _) hm9 X4.out.size ?_; intro a7 k7 w7 ho7 hg7 hat7 hnc7 hcm7; have E57 : EqX w7 p5 (.slice a m c) (.slice xa size xc) := E54.out.grownZ OZ4.out hg7; obtain ⟨k70, k71⟩ := E57.eqb; have f70 := E57.frozen 0)
        have O7 : OwnZ w.heap.size w7 (.slice a7 (m + 1) k7) (m + 1) (leftZ K (of.take (i + 1))) := by rw [LX'.out]; exact ho7
        have KS : ∀ (q : Nat) (cs : Array Value) (t : TypeId), t ≠ 31 → w7.heap[q]? = some (Obj.cells cs t) → (w7.setCell ⟨p5, 0, none⟩ (.slice a7 (m + 1) k7)).heap[q]? = w7.heap[q]? := fun q cs t ht hq => heap_set_other _ _ _ _ (heap_ne hq E57 ht)
        have Z8 : Hid (OwnZ w.heap.size (w7.setCell ⟨p5, 0, none⟩ (.slice a7 (m + 1) k7)) (.slice a7 (m + 1) k7) (m + 1) (leftZ K (of.take (i + 1)))) := O7.kept fun q hq => by
          obtain ⟨cs, hc⟩ := owns_type' O7 q hq
          exact KS q cs _ (by decide) hc
        have B7 : OwB w.heap.size w7 (.slice xa size xc) size (xorAll va ((knZ K (of.take i)).map V)) := OB4.out.kept fun q hq => by
          obtain ⟨cs, hc⟩ := owns_type' OB4.out q hq
          exact grown_kind OZ4.out hg7 hc (by decide)
        have B8 : Hid (OwB w.heap.size (w7.setCell ⟨p5, 0, none⟩ (.slice a7 (m + 1) k7)) (.slice xa size xc) size (xorAll va ((knZ K (of.take (i + 1))).map V))) := by
          unfold Hid
          rw [KX'.out]
          exact B7.kept fun q hq => by
            obtain ⟨cs, hc⟩ := owns_type' B7 q hq
            exact KS q cs _ (by decide) hc
        have E58 : Hid (EqX (w7.setCell ⟨p5, 0, none⟩ (.slice a7 (m + 1) k7)) p5 (.slice a7 (m + 1) k7) (.slice xa size xc)) := E57.set0 _
        have E48 : Hid (EqX (w7.setCell ⟨p5, 0, none⟩ (.slice a7 (m + 1) k7)) (w.heap.size + 1) (.slice none 0 0) (.slice none 0 0)) := (E44.out.grownZ OZ4.out hg7).kept (heap_set_other _ _ _ _ (by have := S1.out; omega))
        have X8 : Hid (Below w.heap.size w (w7.setCell ⟨p5, 0, none⟩ (.slice a7 (m + 1) k7))) := (X4.out.grown hg7 X4.out.size (fun q hq => (OZ4.out.lt q hq).1)).setCell (by have := S1.out; show w.heap.size ≤ p5; omega) _
        clear ho7 hg7 hat7 hnc7 hcm7 E57 k70 k71 f70 O7 KS B7 OZ4 OB4 E54 E44 X4 LX' KX' ci k0 k1 LK
        go_roundw
        case rel => exact ⟨i + 1, m + 1, k7, a7, by omega, by go_num, by omega, E58, Z8, B8, E48, X8⟩
        case measure => simp [intOf]; omega
    · obtain rfl : n = i := by omega
      have eT : of.take n = of := List.take_of_length_le (by rw [HN.out]; exact Nat.le_refl _)
      rw [eT] at OZ OB
      obtain ⟨k40, k41⟩ := E4.out.eqb
      have f40 := E4.out.frozen 0
      have f41 := E4.out.frozen 1
      go_wp2
      have NE : ∀ (q : Nat) (cs : Array Value) (t : TypeId), t ≠ 31 → wr.heap[q]? = some (Obj.cells cs t) → ((wr.setCell ⟨w.heap.size + 1, 0, none⟩ (.slice a m c)).setCell ⟨w.heap.size + 1, 1, none⟩ (.slice xa size xc)).heap[q]? = wr.heap[q]? := fun q cs t ht hq => (heap_set_other _ _ _ _ (heap_ne hq E4.out ht)).trans (heap_set_other _ _ _ _ (heap_ne hq E4.out ht))
      refine bodyPost_ret (ret_cell1 rfl rfl ((E4.out.set0 (.slice a m c)).set1 (.slice xa size xc)).eqb.load) rfl ?_
      refine ⟨a, m, c, xa, xc, rfl, ?_, ?_, (XX.out.setCell (Nat.le_succ _) _).setCell (Nat.le_succ _) _⟩
      · refine OwnZ.kept OZ fun q hq => ?_
        obtain ⟨cs, hc⟩ := owns_type' (show OwnZ w.heap.size wr (.slice a m c) m (leftZ K of) from OZ) q hq
        exact NE q cs _ (by decide) hc
      · refine OwB.kept OB fun q hq => ?_
        obtain ⟨cs, hc⟩ := owns_type' (show OwB w.heap.size wr (.slice xa size xc) size (xorAll va ((knZ K of).map V)) from OB) q hq
        exact NE q cs _ (by decide) hc

end

section
/-
  closure.solvable, where nothing is open; what Agrees' order means.
-/
open Go.RowKit
set_option linter.unusedVariables false

set_option maxRecDepth 100000 in
theorem cloneQ_nil (w : World) : Calls Tryz.prog 62 #[.slice none 0 0] w fun e w' => e = .returned (.slice none 0 0) ∧ w' = w := by
  have kr : (binOp BinOp.eql 45 (.slice none 0 0) (.slice none 0 0)).run Tryz.prog w = .ok (.bool true) w := by kernel_rfl
  go_enter Tryz.func62, Tryz.ntmps62
  go_wp2
  first | go_ret | go_end0
  exact ⟨rfl, rfl⟩

set_option maxRecDepth 100000 in
set_option maxHeartbeats 1000000 in
/-- SOLVABLE, of no equations. -/
theorem solvable_nil (size : Int) (w : World) : Calls Tryz.prog 38 #[.int .i64 size, .slice none 0 0] w fun e w' => e = .returned (.bool true) ∧ Below w.heap.size w w' := by
  have hmm := @run_makeMap Tryz.prog
  go_enter Tryz.func38, Tryz.ntmps38
  go_wp2_with fail
  refine (cloneQ_nil _).mono ?_
  rintro e w1 ⟨rfl, hw1⟩
  have B1 : Hid (Below w.heap.size w w1) := by unfold Hid; rw [hw1]; first | exact Below.refl _ _ | exact below_alloc _ _
  clear hw1
  go_wp2
  obtain ⟨w2, hw2⟩ : ∃ x, (w1.alloc (.map #[] 0)).alloc (.cells #[.int .i64 size, .slice none 0 0, .map (some w1.heap.size)] 129) = x := ⟨_, rfl⟩
  obtain ⟨p5, hp5⟩ : ∃ x, w1.heap.size + 1 = x := ⟨_, rfl⟩
  have h5 : w2.heap[p5]? = some (.cells #[.int .i64 size, .slice none 0 0, .map (some w1.heap.size)] 129 (0, 0)) := by
    have h1 : (w1.alloc (.map #[] 0)).heap.size = w1.heap.size + 1 := by simp
    rw [← hw2, ← hp5, ← h1]
    exact heap_new _ _
  have c1 : w2.cell? ⟨p5, 1, none⟩ = some (.slice none 0 0) := by simp [World.cell?, h5]
  have B2 : Hid (Below w.heap.size w w2) := by unfold Hid; rw [← hw2]; exact (B1.out.alloc B1.out.size _).alloc (Nat.le_trans B1.out.size (below_alloc _ _).size) _
  rw [hw2, hp5]
  clear hw2 hp5 h5 B1
  go_loopw [18] (fun iv wr => iv = .int .i64 0 ∧ wr = w2) (fun _ _ => 0)
  case atStart => exact ⟨rfl, rfl⟩
  case round =>
    obtain ⟨rfl, rfl⟩ := hrel
    obtain ⟨w2, hw2⟩ : ∃ x, x = wr := ⟨_, rfl⟩
    subst hw2
    go_wp2
    go_loopw [31] (fun iv wr => iv = .int .i64 0 ∧ wr = w2) (fun _ _ => 0)
    case atStart => exact ⟨rfl, rfl⟩
    case round =>
      obtain ⟨rfl, rfl⟩ := hrel
      go_wp2
      go_ret
      exact ⟨rfl, B2.out⟩

def pairQ (q : Qe) : EqP := (q.of, q.va)
def pairsQ (fit : List Qe) (ss : List (Nat × Int)) : List (EqP × Int) := ss.map fun s => (pairQ (fit.getD s.1 Qe.none), s.2)
theorem pairs_take (fit : List Qe) (ss : List (Nat × Int)) (j : Nat) : ((pairsQ fit ss).take j).map Prod.snd = (ss.take j).map Prod.snd := by
  unfold pairsQ
  rw [← List.map_take, List.map_map]
  rfl
theorem pairs_snd (fit : List Qe) (ss : List (Nat × Int)) : (pairsQ fit ss).map Prod.snd = ss.map Prod.snd := by
  unfold pairsQ
  rw [List.map_map]
  rfl
theorem deriv_at {fit : List Qe} {ss : List (Nat × Int)} (hd : Deriv (fit.map Qe.of) ss) {j e : Nat} {b : Int} (hj : ss[j]? = some (e, b)) : ∃ q, fit[e]? = some q ∧ leftZ ((ss.take j).map Prod.snd) q.of = [b] := by
  obtain ⟨l, h1, h2⟩ := hd j e b hj
  rw [List.getElem?_map] at h1
  cases hq : fit[e]? with
  | none => rw [hq] at h1; cases h1
  | some q =>
    rw [hq] at h1
    have h3 : q.of = l := Option.some.inj h1
    exact ⟨q, rfl, by rw [h3]; exact h2⟩
theorem pairs_at {fit : List Qe} {ss : List (Nat × Int)} (hd : Deriv (fit.map Qe.of) ss) {j : Nat} {p : EqP} {b : Int} (hj : (pairsQ fit ss)[j]? = some (p, b)) : ∃ e q, ss[j]? = some (e, b) ∧ fit[e]? = some q ∧ p = pairQ q ∧ leftZ ((ss.take j).map Prod.snd) q.of = [b] := by
  unfold pairsQ at hj
  rw [List.getElem?_map] at hj
  cases hs : ss[j]? with
  | none => rw [hs] at hj; cases hj
  | some s =>
    obtain ⟨e, b'⟩ := s
    rw [hs] at hj
    have h1 := Option.some.inj hj
    injection h1 with h2 h3
    have h3' : b' = b := h3
    subst h3'
    obtain ⟨q, h4, h5⟩ := deriv_at hd hs
    refine ⟨e, q, rfl, h4, ?_, h5⟩
    rw [← h2]
    simp [h4]
theorem slv_of {fit : List Qe} {ss : List (Nat × Int)} (hd : Deriv (fit.map Qe.of) ss) : ∃ V, Slv (fit.map pairQ) (pairsQ fit ss) V := by
  refine slv_ex _ _ (pairsQ fit ss) rfl (fun s hs => ?_) (fun j p b hj => ?_)
  · obtain ⟨j, hj⟩ := List.mem_iff_getElem?.1 hs
    obtain ⟨p, b⟩ := s
    obtain ⟨e, q, -, h2, h3, -⟩ := pairs_at hd hj
    rw [h3]
    exact List.mem_map.2 ⟨q, List.mem_of_getElem? h2, rfl⟩
  · obtain ⟨e, q, -, -, h3, h4⟩ := pairs_at hd hj
    rw [pairs_take, h3]
    exact h4
theorem pairs_fst (fit : List Qe) : (fit.map pairQ).map Prod.fst = fit.map Qe.of := by rw [List.map_map]; rfl
/-- All closed equations hold, just if there are such values. -/
theorem agree_all {n : Nat} {fit : List Qe} {ss : List (Nat × Int)} {V : Int → List UInt8} (hN : ∀ q ∈ fit, q.of.Nodup) (hn : ∀ q ∈ fit, q.va.length = n) (hd : Deriv (fit.map Qe.of) ss) (hD : Done (fit.map Qe.of) (ss.map Prod.snd)) (hV : Slv (fit.map pairQ) (pairsQ fit ss) V) :
    (∀ q ∈ fit, leftZ (ss.map Prod.snd) q.of = [] → zeroB (xorAll q.va (q.of.map V)) = true) ↔ AgQ n (fit.map pairQ) := by
  have hn' : ∀ p ∈ fit.map pairQ, p.2.length = n := fun p hp => by obtain ⟨q, hq, rfl⟩ := List.mem_map.1 hp; exact hn q hq
  have hK : ∀ x, Fol ((fit.map pairQ).map Prod.fst) x → x ∈ (pairsQ fit ss).map Prod.snd := fun x hx => by
    rw [pairs_fst] at hx
    rw [pairs_snd]
    refine done_fol (fun l hl => ?_) hD hx
    obtain ⟨q, hq, rfl⟩ := List.mem_map.1 hl
    exact hN q hq
  have hcl : ∀ q : Qe, leftZ (ss.map Prod.snd) q.of = [] ↔ ∀ b ∈ q.of, b ∈ ss.map Prod.snd := fun q => by
    rw [List.eq_nil_iff_forall_not_mem]
    constructor
    · intro h b hb
      by_cases hk : b ∈ ss.map Prod.snd
      · exact hk
      · exact absurd (leftZ_mem.2 ⟨hb, hk⟩) (h b)
    · intro h b hb
      obtain ⟨h1, h2⟩ := leftZ_mem.1 hb
      exact h2 (h b h1)
  rw [← slv_agree hn' hV hK]
  constructor
  · intro hA p hp hc
    obtain ⟨q, hq, rfl⟩ := List.mem_map.1 hp
    rw [pairs_snd] at hc
    exact .inr (hA q hq ((hcl q).2 hc))
  · intro hA q hq hc
    rcases hA (pairQ q) (List.mem_map.2 ⟨q, hq, rfl⟩) (by rw [pairs_snd]; exact (hcl q).1 hc) with ⟨j, b, hj⟩ | hz
    · have h1 := lead_split (hV.left j _ b hj) V q.va
      have h2 := hV.val j _ b hj
      have h3 : (pairQ q).1 = q.of := rfl
      have h4 : (pairQ q).2 = q.va := rfl
      rw [h3] at h1
      rw [h3, h4] at h2
      rw [h1, ← h2, xorL_self]
      exact zeroB_zeros _
    · exact hz

end

section
/-
  closure.Agrees.
-/
open Go.RowKit
set_option linter.unusedVariables false

theorem aheadQ_len (fit : List Qe) (ss : List (Nat × Int)) : (aheadQ fit ss).length = ss.length := by simp [aheadQ]
theorem behind_mem {fit : List Qe} {h : Nat → Int} {ss : List (Nat × Int)} (hh : ∀ (e : Nat) (l : List Int), (fit.map Qe.of)[e]? = some l → h e = ((leftZ (ss.map Prod.snd) l).length : Int)) {q : Qe} (hq : q ∈ behindQ fit h ss fit.length) : q ∈ fit ∧ leftZ (ss.map Prod.snd) q.of = [] := by
  obtain ⟨e, he, rfl⟩ := List.mem_map.1 hq
  obtain ⟨h1, h2⟩ := List.mem_filter.1 he
  have hlt := List.mem_range.1 h1
  have h3 : fit[e]? = some (fit.getD e Qe.none) := by simp [hlt]
  refine ⟨List.mem_of_getElem? h3, ?_⟩
  have h4 := hh e (fit.getD e Qe.none).of (by rw [List.getElem?_map, h3]; rfl)
  have h5 : h e = 0 := by
    simp only [Bool.and_eq_true, decide_eq_true_eq] at h2
    exact h2.1
  exact List.eq_nil_of_length_eq_zero (by omega)
theorem mem_behind {fit : List Qe} {h : Nat → Int} {ss : List (Nat × Int)} {e : Nat} {q : Qe} (hq : fit[e]? = some q) (h0 : h e = 0) (hl : leadB ss e = false) : q ∈ behindQ fit h ss fit.length := by
  have hlt := (List.getElem?_eq_some_iff.1 hq).1
  refine List.mem_map.2 ⟨e, List.mem_filter.2 ⟨List.mem_range.2 hlt, by simp [h0, hl]⟩, by simp [hq]⟩
/-- .. just if those behind hold. -/
theorem agree_rest {n : Nat} {fit : List Qe} {ss : List (Nat × Int)} {h : Nat → Int} {V : Int → List UInt8} (hN : ∀ q ∈ fit, q.of.Nodup) (hn : ∀ q ∈ fit, q.va.length = n) (hd : Deriv (fit.map Qe.of) ss) (hD : Done (fit.map Qe.of) (ss.map Prod.snd)) (hV : Slv (fit.map pairQ) (pairsQ fit ss) V)
    (hh : ∀ (e : Nat) (l : List Int), (fit.map Qe.of)[e]? = some l → h e = ((leftZ (ss.map Prod.snd) l).length : Int)) :
    (∀ q ∈ behindQ fit h ss fit.length, zeroB (xorAll q.va (q.of.map V)) = true) ↔ AgQ n (fit.map pairQ) := by
  rw [← agree_all hN hn hd hD hV]
  constructor
  · intro hA q hq hc
    obtain ⟨e, he⟩ := List.mem_iff_getElem?.1 hq
    have h0 : h e = 0 := by
      rw [hh e q.of (by rw [List.getElem?_map, he]; rfl), hc]
      rfl
    cases hl : leadB ss e with
    | false => exact hA q (mem_behind he h0 hl)
    | true =>
      unfold leadB at hl
      obtain ⟨⟨e', b⟩, h1, h2⟩ := List.mem_map.1 (of_decide_eq_true hl)
      have h2' : e' = e := h2
      subst h2'
      obtain ⟨j, hj⟩ := List.mem_iff_getElem?.1 h1
      have hp : (pairsQ fit ss)[j]? = some (pairQ q, b) := by
        unfold pairsQ
        rw [List.getElem?_map, hj]
        simp [he]
      have h3 := lead_split (hV.left j _ b hp) V q.va
      have h4 := hV.val j _ b hp
      have e1 : (pairQ q).1 = q.of := rfl
      have e2 : (pairQ q).2 = q.va := rfl
      rw [e1] at h3
      rw [e1, e2] at h4
      rw [h3, ← h4, xorL_self]
      exact zeroB_zeros _
  · intro hA q hq
    obtain ⟨h1, h2⟩ := behind_mem hh hq
    exact hA q h1 h2
theorem holds_nil (v : List UInt8) : HoldsP [] v [] ↔ zeroB v = true := by
  unfold HoldsP
  constructor
  · intro h; exact h.2
  · intro h
    exact ⟨(by intro i hi; cases hi), h⟩
def IsMpF (mb k : Nat) (f : Int → Option Value) : Value → World → Prop := fun _ W => MpO W mb k f
theorem stays_mpf (mb k : Nat) (f : Int → Option Value) : Stays (IsMpF mb k f) := fun _ _ _ hb h => MpO.below h hb
theorem mp_cells {w w' : World} {mb k : Nat} {f : Int → Option Value} (hm : MpO w mb k f) (hk : KeepsBut (fun z => z = mb) w w') : ∀ p u, w.cell? p = some u → w'.cell? p = some u := fun p u hp => by
  have hne : p.block ≠ mb := fun e => by
    obtain ⟨es, c, h1⟩ := hm.isMap
    simp [World.cell?, e, h1] at hp
  exact (World.cell?_of_block (hk.block p.block (cell_block_lt hp) hne)).trans hp

set_option maxRecDepth 100000 in
set_option maxHeartbeats 4000000 in
/-- AGREES. -/
theorem agrees_any (all : Int) (size : Nat) (pv : Value) (es : List Qe) (w : World) (hp : Qs w pv es) (hm0 : es.length ≤ 100000) (hT : (es.map Qe.of).flatten.length ≤ 1000000) (hall : all ≤ 9223372036854775807) (hsz : ∀ e ∈ es, e.va.length = size) (hs1 : size ≤ 1000000) :
    Calls Tryz.prog 14 #[.int .i64 all, .int .i64 (size : Int), pv] w fun e w' => TellsP (AgQ size ((fitQ all es).map pairQ)) e ∧ Below w.heap.size w w' := by
  have HP : Hid (Qs w pv es) := hp
  have HT : Hid ((es.map Qe.of).flatten.length ≤ 1000000) := hT
  have HA : Hid (all ≤ 9223372036854775807) := hall
  have HSZ : Hid (∀ e ∈ es, e.va.length = size) := hsz
  have hmm := @run_makeMap Tryz.prog
  clear hp hT hsz hall
  go_enter Tryz.func14, Tryz.ntmps14
  go_wp2_with fail
  refine (order_any all size pv es _ (HP.out.below (below_alloc _ _)) hm0 HT.out HA.out HSZ.out).mono ?_
  rintro e w1 ⟨a, k, c, ss, h, rfl, ho, hd, hD, hh, hb⟩
  have SA : (w.alloc (.map #[] 0)).heap.size = w.heap.size + 1 := by simp
  have X1 : Hid (Below w.heap.size w w1) := (below_alloc w _).trans (hb.mono (below_alloc _ _).size)
  have M1 : Hid (MpO w1 w.heap.size 0 (fun _ => none)) := (MpO.start w).below hb
  obtain ⟨fit, hfit⟩ : ∃ fit, fitQ all es = fit := ⟨_, rfl⟩
  rw [hfit] at ho hd hD hh
  have HFIT : Hid (fitQ all es = fit) := hfit
  have FM : ∀ q ∈ fit, q ∈ es ∧ FitI all q.of := fun q hq => by rw [← hfit] at hq; exact fitQ_mem.1 hq
  have hN : ∀ q ∈ fit, q.of.Nodup := fun q hq => (FM q hq).2.nodup
  have hn : ∀ q ∈ fit, q.va.length = size := fun q hq => HSZ.out q (FM q hq).1
  obtain ⟨V, hV⟩ := slv_of hd
  have AR : Hid ((∀ q ∈ behindQ fit h ss fit.length, zeroB (xorAll q.va (q.of.map V)) = true) ↔ AgQ size (fit.map pairQ)) := agree_rest hN hn hd hD hV hh
  obtain ⟨N, hNN⟩ : ∃ N, ss.length = N := ⟨_, rfl⟩
  obtain ⟨L, hL⟩ : ∃ L, aheadQ fit ss ++ behindQ fit h ss fit.length = L := ⟨_, rfl⟩
  rw [hL] at ho
  have HLK : Hid (L.length = k) := OwnE.len ho
  have AT : Hid (∀ (j : Nat) (q : Qe), L[j]? = some q → (q ∈ fit ∧ QeP w q ∧ q.va.length = size ∧ q.of.length ≤ 1000000 ∧ ∀ z ∈ q.of, (Lit.int .i64 z).wf = true) ∧ (j < N → ∃ b, ss[j]? = some (b : Nat × Int) ∧ leftZ ((ss.take j).map Prod.snd) q.of = [b.2] ∧ V b.2 = xorAll q.va ((knZ ((ss.take j).map Prod.snd) q.of).map V)) ∧ (N ≤ j → q ∈ behindQ fit h ss fit.length ∧ leftZ (ss.map Prod.snd) q.of = [])) := by
    intro j q hj
    have hal := aheadQ_len fit ss
    have inF : ∀ q ∈ fit, q ∈ fit ∧ QeP w q ∧ q.va.length = size ∧ q.of.length ≤ 1000000 ∧ ∀ z ∈ q.of, (Lit.int .i64 z).wf = true := fun q hq => by
      obtain ⟨h1, h2⟩ := FM q hq
      refine ⟨hq, HP.out.2 q h1, hn q hq, ?_, fun z hz => ?_⟩
      · obtain ⟨i, hi⟩ := List.mem_iff_getElem?.1 h1
        exact Nat.le_trans (flat_le (by rw [List.getElem?_map, hi]; rfl)) HT.out
      · have h3 := h2.2 z hz
        have h4 := HA.out
        exact wf_i64 (by omega) (by omega)
    rw [← hL] at hj
    by_cases hlt : j < N
    · rw [List.getElem?_append_left (by omega)] at hj
      unfold aheadQ at hj
      rw [List.getElem?_map] at hj
      cases hs : ss[j]? with
      | none => rw [hs] at hj; cases hj
      | some s =>
        obtain ⟨e, b⟩ := s
        obtain ⟨q', h1, h2⟩ := deriv_at hd hs
        rw [hs] at hj
        have h3 := Option.some.inj hj
        have h4 : q' = q := by rw [← h3]; simp [h1]
        subst h4
        refine ⟨inF _ (List.mem_of_getElem? h1), fun _ => ⟨(e, b), rfl, h2, ?_⟩, fun h => by omega⟩
        have hp : (pairsQ fit ss)[j]? = some (pairQ q', b) := by
          unfold pairsQ
          rw [List.getElem?_map, hs]
          simp [h1]
        have h5 := hV.val j _ b hp
        rw [pairs_take] at h5
        exact h5
    · rw [List.getElem?_append_right (by omega)] at hj
      have h1 := List.mem_of_getElem? hj
      obtain ⟨h2, h3⟩ := behind_mem hh h1
      exact ⟨inF q h2, fun h => by omega, fun _ => ⟨h1, h3⟩⟩
  have BE : Hid (∀ q ∈ behindQ fit h ss fit.length, ∃ j, N ≤ j ∧ L[j]? = some q) := fun q hq => by
    obtain ⟨j, hj⟩ := List.mem_iff_getElem?.1 hq
    refine ⟨N + j, by omega, ?_⟩
    rw [← hL, List.getElem?_append_right (by rw [aheadQ_len]; omega), aheadQ_len, hNN]
    rw [Nat.add_sub_cancel_left]
    exact hj
  have HNN : Hid (ss.length = N) := hNN
  have OE1 : Hid (OwnE w.heap.size w1 (.slice a k c) k L) := OwnE.mono ho (by omega)
  have OX : Hid (∀ q, (Value.slice a k c).ownBlock = some q → q ≠ w.heap.size) := fun q hq => by
    have := (OwnE.lt ho q hq).1
    omega
  have hk9 : k ≤ 2000000 := by
    have h1 := HLK.out
    rw [← hL, List.length_append, aheadQ_len] at h1
    have h2 := behindQ_len fit h ss fit.length
    have h3 : fit.length ≤ es.length := by rw [← hfit]; exact List.length_filter_le _ _
    have h4 : N ≤ 1000000 := by
      have h5 := Deriv.nodup hd
      have h6 := h5.length_le_of_subset (l₂ := (fit.map Qe.of).flatten) (fun x hx => by
        obtain ⟨⟨e, b⟩, h7, rfl⟩ := List.mem_map.1 hx
        obtain ⟨j, h8⟩ := List.mem_iff_getElem?.1 h7
        obtain ⟨l, h9, h10⟩ := hd j e b h8
        have h11 : b ∈ leftZ ((ss.take j).map Prod.snd) l := by rw [h10]; simp
        exact List.mem_flatten.2 ⟨l, List.mem_of_getElem? h9, (leftZ_mem.1 h11).1⟩)
      have h7 : (fit.map Qe.of).flatten.length ≤ 1000000 := by
        rw [← hfit, fitQ_of]
        exact Nat.le_trans (fitF_flat all _) HT.out
      rw [List.length_map, hNN] at h6
      omega
    omega
  have hfa := owned_slice ho
  obtain ⟨a', c', ea, hc1, hc2, -⟩ := hfa
  injection ea with ea1 _ ea3
  subst ea1
  subst ea3
  unfold maxLen at hc2
  clear ho hb hd hD hh hV hfit FM hN hn hL hNN SA
  go_wp2
  go_loopw [8, 18] (fun ov iv wr => ∃ (i kk : Nat) (f : Int → Option Value), i ≤ k ∧ iv = .int .i64 i ∧ ov = .slice none 0 0 ∧ kk ≤ i ∧ Hid (MpO wr w.heap.size kk f) ∧ Hid (VmP wr f ((ss.take i).map Prod.snd) V size) ∧ Hid (∀ (j : Nat) (q : Qe), j < i → N ≤ j → L[j]? = some q → zeroB (xorAll q.va (q.of.map V)) = true) ∧ Hid (OwnE w.heap.size wr (.slice a k c) k L) ∧ Hid (Below w.heap.size w wr)) (fun _ iv _ => k - (intOf iv).toNat)
  case atStart => exact ⟨0, 0, fun _ => none, by omega, rfl, rfl, by omega, M1, (fun b => ⟨(by intro h; cases h), fun _ => rfl⟩), (by intro j q h; omega), OE1, X1⟩
  case round =>
    clear M1 OE1 X1
    obtain ⟨i, kk, f, hi, rfl, rfl, hkk, MM, VV, ZZ, OE, XX⟩ := hrel
    by_cases hlt : i < k
    · obtain ⟨q, hq⟩ : ∃ q, L[i]? = some q := ⟨_, List.getElem?_eq_getElem (by rw [HLK.out]; exact hlt)⟩
      obtain ⟨⟨hqf, hqp, hqs, hql, hqw⟩, hq1, hq2⟩ := AT.out i q hq
      have HQI : Hid (L[i]? = some q) := hq
      have QQ : Qs wr (.slice a k c) L := (show OwnE w.heap.size wr (.slice a k c) k L from OE.out).qs fun q hq => by
        obtain ⟨j, hj⟩ := List.mem_iff_getElem?.1 hq
        exact (AT.out j q hj).1.2.1.below XX.out
      obtain ⟨b0, off, rfl, c1, c2⟩ := QQ.at (Below.refl _ _) hq
      obtain ⟨ov, vv, of, va⟩ := q
      obtain ⟨la, lc, eo, hl2, hl3⟩ := zs_shape hqp.1
      have eo' : ov = .slice la of.length lc := eo
      subst eo'
      obtain ⟨ba, bc, ev, hb2', hb3'⟩ := bs_shape hqp.2
      have ev' : vv = .slice ba va.length bc := ev
      subst ev'
      have HQP : Hid (QeP w ⟨.slice la of.length lc, .slice ba va.length bc, of, va⟩) := hqp
      have HQS : Hid (va.length = size) := hqs
      have HQL : Hid (of.length ≤ 1000000) := hql
      have HQW : Hid (∀ z ∈ of, (Lit.int .i64 z).wf = true) := hqw
      have Q1 : Hid (i < N → ∃ b : Nat × Int, ss[i]? = some b ∧ leftZ ((ss.take i).map Prod.snd) of = [b.2] ∧ V b.2 = xorAll va ((knZ ((ss.take i).map Prod.snd) of).map V)) := hq1
      have Q2 : Hid (N ≤ i → (⟨.slice la of.length lc, .slice ba va.length bc, of, va⟩ : Qe) ∈ behindQ fit h ss fit.length ∧ leftZ (ss.map Prod.snd) of = []) := hq2
      clear hq hqf hqp hqs hql hqw hq1 hq2 QQ eo ev hl2 hl3 hb2' hb3'
      have XA : Hid (Below w.heap.size w (wr.alloc (.cells #[.slice la of.length lc, .slice ba va.length bc] 31))) := XX.out.alloc XX.out.size _
      have AA : Below wr.heap.size wr (wr.alloc (.cells #[.slice la of.length lc, .slice ba va.length bc] 31)) := below_alloc _ _
      have WO : Hid (Calls Tryz.prog 37 #[.agg #[.slice la of.length lc, .slice ba va.length bc], .map (some w.heap.size)] (wr.alloc (.cells #[.slice la of.length lc, .slice ba va.length bc] 31)) fun e w' => ∃ (oa : Option Addr) (on oc : Nat) (xa : Option Addr) (xc : Nat), e = .returned (.agg #[.slice oa on oc, .slice xa size xc]) ∧ OwnZ wr.heap.size w' (.slice oa on oc) on (leftZ ((ss.take i).map Prod.snd) of) ∧ OwB wr.heap.size w' (.slice xa size xc) size (xorAll va ((knZ ((ss.take i).map Prod.snd) of).map V)) ∧ Below wr.heap.size wr w') := by
        refine (without_any _ _ of va w.heap.size kk f _ V size _ (HQP.out.1.below XA.out) (HQP.out.2.below XA.out) (MM.out.below AA) (VV.out.below AA) HQS.out hs1 HQL.out HQW.out).mono ?_
        rintro e w' ⟨oa, on, oc, xa, xc, h1, h2, h3, h4⟩
        exact ⟨oa, on, oc, xa, xc, h1, h2.mono AA.size, OwB.mono h3 AA.size, AA.trans (h4.mono AA.size)⟩
      clear XA AA
      go_wp2_with fail
      refine WO.out.mono ?_
      rintro e w2 ⟨oa, on, oc, xa, xc, rfl, ho, hv, hb⟩
      have OZ : Hid (OwnZ wr.heap.size w2 (.slice oa on oc) on (leftZ ((ss.take i).map Prod.snd) of)) := ho
      have OB : Hid (OwB wr.heap.size w2 (.slice xa size xc) size (xorAll va ((knZ ((ss.take i).map Prod.snd) of).map V))) := hv
      have B2 : Hid (Below wr.heap.size wr w2) := hb
      have ON : Hid ((leftZ ((ss.take i).map Prod.snd) of).length = on) := ho.len
      have MM2 : Hid (MpO w2 w.heap.size kk f) := MM.out.below hb
      have VV2 : Hid (VmP w2 f ((ss.take i).map Prod.snd) V size) := VV.out.below hb
      have OE2 : Hid (OwnE w.heap.size w2 (.slice (some ⟨b0, off, none⟩) k c) k L) := OwnE.below OE.out hb
      have X2 : Hid (Below w.heap.size w w2) := XX.out.trans (hb.mono XX.out.size)
      obtain ⟨oa', oc', eoa, ho1, ho2, -⟩ := owned_slice ho
      injection eoa with eoa1 _ eoa3
      subst eoa1
      subst eoa3
      unfold maxLen at ho2
      obtain ⟨xa', xc', exa, hx1, hx2, -⟩ := owned_slice hv
      injection exa with exa1 _ exa3
      subst exa1
      subst exa3
      unfold maxLen at hx2
      clear ho hv hb MM VV OE XX WO c1 c2
      go_upto_region 7 with fail
      obtain ⟨w3, hw3⟩ : ∃ x, w2.alloc (.cells #[.slice oa on oc, .slice xa size xc] 31) = x := ⟨_, rfl⟩
      have A3 : Below w2.heap.size w2 w3 := by rw [← hw3]; exact below_alloc _ _
      have EX : Hid (EqX w3 w2.heap.size (.slice oa on oc) (.slice xa size xc)) := by unfold Hid; rw [← hw3]; exact EqX.new _ _ _
      have OZ3 : Hid (OwnZ wr.heap.size w3 (.slice oa on oc) on (leftZ ((ss.take i).map Prod.snd) of)) := OZ.out.below A3
      have OB3 : Hid (OwB wr.heap.size w3 (.slice xa size xc) size (xorAll va ((knZ ((ss.take i).map Prod.snd) of).map V))) := OwB.below OB.out A3
      have MM3 : Hid (MpO w3 w.heap.size kk f) := MM2.out.below A3
      have VV3 : Hid (VmP w3 f ((ss.take i).map Prod.snd) V size) := VV2.out.below A3
      have OE3 : Hid (OwnE w.heap.size w3 (.slice (some ⟨b0, off, none⟩) k c) k L) := OwnE.below OE2.out A3
      have X3 : Hid (Below w.heap.size w w3) := X2.out.trans (A3.mono X2.out.size)
      obtain ⟨r, hr⟩ : ∃ x, w2.heap.size = x := ⟨_, rfl⟩
      rw [hr] at EX ⊢
      rw [hw3]
      clear hw3 hr A3 OZ OB MM2 VV2 OE2 X2 B2
      obtain ⟨k0, k1⟩ := EX.out.eqb
      by_cases hiN : i < N
      · obtain ⟨⟨e, b⟩, hse, hlb, hVb⟩ := Q1.out hiN
        have h1 := ON.out
        rw [hlb] at h1
        have on1 : on = 1 := h1.symm
        subst on1
        have HVB : Hid (V b = xorAll va ((knZ ((ss.take i).map Prod.snd) of).map V)) := hVb
        have KT : Hid ((ss.take (i + 1)).map Prod.snd = (ss.take i).map Prod.snd ++ [b]) := by
          obtain ⟨h2, h3⟩ := List.getElem?_eq_some_iff.1 hse
          unfold Hid
          rw [List.take_succ_eq_append_getElem h2, h3, List.map_append]
          rfl
        have hbof : b ∈ of := by
          have h2 : b ∈ leftZ ((ss.take i).map Prod.snd) of := by rw [hlb]; simp
          exact (leftZ_mem.1 h2).1
        have wb := HQW.out b hbof
        have Z3 : Zs w3 (.slice oa 1 oc) [b] := by
          have h2 := OZ3.out.zs
          rw [hlb] at h2
          exact h2
        obtain ⟨zb, zo, rfl, cz⟩ := zs_at Z3 (Below.refl _ _) (i := 0) (z := b) rfl
        have cz' : w3.cell? ⟨zb, zo, none⟩ = some (.int .i64 b) := cz
        have EBX : Hid (∀ W, KeepsBut (fun z => z = w.heap.size) w3 W → W.cell? ⟨r, 0, none⟩ = some (.slice (some ⟨zb, zo, none⟩) 1 oc) ∧ W.cell? ⟨r, 1, none⟩ = some (.slice xa size xc)) := fun W hW => ⟨mp_cells MM3.out hW _ _ k0, mp_cells MM3.out hW _ _ k1⟩
        have CZ : Hid (∀ W, KeepsBut (fun z => z = w.heap.size) w3 W → W.cell? ⟨zb, zo, none⟩ = some (.int .i64 b)) := fun W hW => mp_cells MM3.out hW _ _ cz'
        have hkk9 : kk ≤ 1000000000 := by omega
        clear hse hlb hVb h1 hbof Z3 cz Q1 Q2 ON OZ3
        go_upto_region 13 with fail
        refine wp_region_any (by kernel_rfl) ?_
        obtain ⟨gs, hgs⟩ : ∃ gs : List (Value → World → Prop), gs = [IsV (Value.map (some w.heap.size)), IsV (.pointer (some ⟨r, 0, none⟩)), IsV (.slice (some ⟨zb, zo, none⟩) 1 oc), IsV (.pointer (some ⟨zb, zo, none⟩)), IsV (.int .i64 b), IsV (.pointer (some ⟨r, 1, none⟩)), IsV (.slice xa size xc), IsAnyV] := ⟨_, rfl⟩
        have g0 : Hid (gs[0]? = some (IsV (Value.map (some w.heap.size)))) := by unfold Hid; rw [hgs]; rfl
        have g1 : Hid (gs[1]? = some (IsV (.pointer (some ⟨r, 0, none⟩)))) := by unfold Hid; rw [hgs]; rfl
        have g2 : Hid (gs[2]? = some (IsV (.slice (some ⟨zb, zo, none⟩) 1 oc))) := by unfold Hid; rw [hgs]; rfl
        have g3 : Hid (gs[3]? = some (IsV (.pointer (some ⟨zb, zo, none⟩)))) := by unfold Hid; rw [hgs]; rfl
        have g4 : Hid (gs[4]? = some (IsV (.int .i64 b))) := by unfold Hid; rw [hgs]; rfl
        have g5 : Hid (gs[5]? = some (IsV (.pointer (some ⟨r, 1, none⟩)))) := by unfold Hid; rw [hgs]; rfl
        have g6 : Hid (gs[6]? = some (IsV (.slice xa size xc))) := by unfold Hid; rw [hgs]; rfl
        have g7 : Hid (gs[7]? = some (IsAnyV)) := by unfold Hid; rw [hgs]; rfl
        have gk : Hid (∀ p ∈ gs, ∀ v (U U' : World), p v U → p v U') := by
          unfold Hid
          rw [hgs]
          simp only [List.forall_mem_cons]
          exact ⟨(fun _ _ _ h => h), (fun _ _ _ h => h), (fun _ _ _ h => h), (fun _ _ _ h => h), (fun _ _ _ h => h), (fun _ _ _ h => h), (fun _ _ _ h => h), (fun _ _ _ h => h), by simp⟩
        clear hgs
        have JS : Hid (∀ W8 W8', Below W8.heap.size W8 W8' → (fun W8 => KeepsBut (fun z => z = w.heap.size) w3 W8) W8 → (fun W8 => KeepsBut (fun z => z = w.heap.size) w3 W8) W8') := fun W8 W8' hb h => h.trans (KeepsBut.ofBelow hb)
        have st7 : Hid (Stays (IsMpF w.heap.size (kk + 1) (setO f b (.slice xa size xc)))) := stays_mpf _ _ _
        have su7 : Hid (∀ W8 W8', Below W8.heap.size W8 W8' → (fun W8 => MpO W8 w.heap.size kk f) W8 → (fun W8 => MpO W8 w.heap.size kk f) W8') := fun W8 W8' hb h => h.below hb
        refine wpAny_inv4 (fun listed ac W8 => ∃ xv8 : Nat → Value, ac = ⟨#[Value.int IntKind.i64 all, Value.int IntKind.i64 ↑size, pv, undef, undef, undef, u6, Value.map (some w.heap.size), Value.slice none 0 0, undef, Value.pointer (some { block := wr.heap.size, off := 0 }), Value.pointer (some { block := r, off := 0 }), Value.map (some w.heap.size), Value.int IntKind.i64 all, Value.int IntKind.i64 ↑size, pv, Value.slice (some { block := b0, off := off }) k c, Value.int IntKind.i64 ↑k, Value.int IntKind.i64 ↑i, Value.bool true, Value.pointer (some { block := b0, off := off + i * 2 }), Value.agg #[Value.slice la of.length lc, Value.slice ba va.length bc], Value.agg #[Value.slice la of.length lc, Value.slice ba va.length bc], Value.map (some w.heap.size), Value.agg #[Value.slice (some { block := zb, off := zo }) 1 oc, Value.slice xa size xc], Value.pointer (some { block := r, off := 0 }), Value.slice (some { block := zb, off := zo }) 1 oc, Value.int IntKind.i64 (1 : Int), u28, u29, u30, u31, Value.bool false, Value.bool false, u34, u35, u36, Value.bool true, Value.bool true, xv8 0, xv8 1, xv8 2, xv8 3, xv8 4, xv8 5, xv8 6, u46, undef, undef, undef], []⟩ ∧ (fun W8 => KeepsBut (fun z => z = w.heap.size) w3 W8) W8 ∧ Lst gs listed xv8 W8 ∧ Fe listed xv8 W8 7 (IsMpF w.heap.size (kk + 1) (setO f b (.slice xa size xc))) ∧ Fz listed W8 7 (fun W8 => MpO W8 w.heap.size kk f)) (by kernel_rfl) ?_ ?_ _ _ _ _ (by kernel_rfl) (of_decide_eq_true (by kernel_rfl)) (Down.start _) ⟨fun jx => if jx = 0 then u39 else if jx = 1 then u40 else if jx = 2 then u41 else if jx = 3 then u42 else if jx = 4 then u43 else if jx = 5 then u44 else if jx = 6 then u45 else undef, rfl, KeepsBut.drew _ _, Lst.start _ _ _ _, Fe.start _ _ _ _ _, Fz.start (MM3.out.below (below0 _))⟩
        · go_light
          rintro listed ac W8 ⟨xv8, rfl, hb, hG, hF7, hU7⟩ hD i hi hnl hd
          have hin : i < 8 := hi
          clear hi
          have hcase : i = 0 ∨ i = 1 ∨ i = 2 ∨ i = 3 ∨ i = 4 ∨ i = 5 ∨ i = 6 ∨ i = 7 := by omega
          rcases hcase with rfl | rfl | rfl | rfl | rfl | rfl | rfl | rfl
          · refine wpOp_step rfl (fun K' hK => ?_)
            clear hd hin hD
            go_simp
            exact hK _ _ ⟨updV xv8 0 (Value.map (some w.heap.size)), by simp [updV], hb, hG.any gk.out g0.out _ rfl, hF7.step (fun _ h => h) (by decide) _, hU7.step (fun h => h) (by decide)⟩
          · refine wpOp_step rfl (fun K' hK => ?_)
            clear hd hin hD
            go_simp
            exact hK _ _ ⟨updV xv8 1 (.pointer (some ⟨r, 0, none⟩)), by simp [updV], hb, hG.any gk.out g1.out _ rfl, hF7.step (fun _ h => h) (by decide) _, hU7.step (fun h => h) (by decide)⟩
          · refine wpOp_step rfl (fun K' hK => ?_)
            simp [Region.binds] at hd
            have e1 : xv8 1 = .pointer (some ⟨r, 0, none⟩) := hG.get g1.out (by simp [hd])
            obtain ⟨c0, c1⟩ := EBX.out W8 hb
            clear hd hin hD
            go_simp
            exact hK _ _ ⟨updV xv8 2 (.slice (some ⟨zb, zo, none⟩) 1 oc), by simp [updV, e1], hb, hG.any gk.out g2.out _ rfl, hF7.step (fun _ h => h) (by decide) _, hU7.step (fun h => h) (by decide)⟩
          · refine wpOp_step rfl (fun K' hK => ?_)
            simp [Region.binds] at hd
            have e2 : xv8 2 = .slice (some ⟨zb, zo, none⟩) 1 oc := hG.get g2.out (by simp [hd])
            clear hd hin hD
            go_simp
            exact hK _ _ ⟨updV xv8 3 (.pointer (some ⟨zb, zo, none⟩)), by simp [updV, e2], hb, hG.any gk.out g3.out _ rfl, hF7.step (fun _ h => h) (by decide) _, hU7.step (fun h => h) (by decide)⟩
          · refine wpOp_step rfl (fun K' hK => ?_)
            simp [Region.binds] at hd
            have e3 : xv8 3 = .pointer (some ⟨zb, zo, none⟩) := hG.get g3.out (by simp [hd])
            have cz := CZ.out W8 hb
            clear hd hin hD
            go_simp
            exact hK _ _ ⟨updV xv8 4 (.int .i64 b), by simp [updV, e3], hb, hG.any gk.out g4.out _ rfl, hF7.step (fun _ h => h) (by decide) _, hU7.step (fun h => h) (by decide)⟩
          · refine wpOp_step rfl (fun K' hK => ?_)
            clear hd hin hD
            go_simp
            exact hK _ _ ⟨updV xv8 5 (.pointer (some ⟨r, 1, none⟩)), by simp [updV], hb, hG.any gk.out g5.out _ rfl, hF7.step (fun _ h => h) (by decide) _, hU7.step (fun h => h) (by decide)⟩
          · refine wpOp_step rfl (fun K' hK => ?_)
            simp [Region.binds] at hd
            have e5 : xv8 5 = .pointer (some ⟨r, 1, none⟩) := hG.get g5.out (by simp [hd])
            obtain ⟨c0, c1⟩ := EBX.out W8 hb
            clear hd hin hD
            go_simp
            exact hK _ _ ⟨updV xv8 6 (.slice xa size xc), by simp [updV, e5], hb, hG.any gk.out g6.out _ rfl, hF7.step (fun _ h => h) (by decide) _, hU7.step (fun h => h) (by decide)⟩
          · refine wpOp_step rfl (fun K' hK => ?_)
            simp [Region.binds] at hd
            have e0 : xv8 0 = Value.map (some w.heap.size) := hG.get g0.out (by simp [hd])
            have e4 : xv8 4 = .int .i64 b := hG.get g4.out (by simp [hd])
            have e6 : xv8 6 = .slice xa size xc := hG.get g6.out (by simp [hd])
            have u7 := hU7.get hnl
            clear hd hin hD
            obtain ⟨w', hrun, hM', hg'⟩ := u7.update Tryz.underlying86 hkk9 wb (.slice xa size xc)
            go_simp
            exact hK _ _ ⟨updV xv8 7 undef, by simp [updV, e0, e4, e6], hb.trans (KeepsBut.ofGrown hg' rfl), hG.any gk.out g7.out _ trivial, Fe.new (hM'), Fz.off hnl⟩
        · rintro listed ac W8 ⟨xv8, rfl, hb, hG, hF7, hU7⟩ hall
          have m7 : Hid ((IsMpF w.heap.size (kk + 1) (setO f b (.slice xa size xc))) (xv8 7) W8) := hF7 (hall 7 (by decide))
          have XW : Hid ((fun W8 => KeepsBut (fun z => z = w.heap.size) w3 W8) W8) := hb
          clear hall hG hb gk JS g0 g1 g2 g3 g4 g5 g6 g7 hF7 st7 hU7 su7
          obtain ⟨w9, hw9⟩ : ∃ x, x = W8 := ⟨_, rfl⟩
          subst hw9
          have M9 : Hid (MpO w9 w.heap.size (kk + 1) (setO f b (.slice xa size xc))) := m7.out
          have CC := mp_cells MM3.out XW.out
          have V9 : Hid (VmP w9 (setO f b (.slice xa size xc)) ((ss.take (i + 1)).map Prod.snd) V size) := by
            intro x
            rw [KT.out, List.mem_append, List.mem_singleton]
            constructor
            · intro hx
              by_cases hxb : x = b
              · subst hxb
                refine ⟨_, setO_same _ _ _, ?_, ?_⟩
                · rw [HVB.out]
                  exact Sl.carry OB3.out.bs CC
                · rw [HVB.out]
                  exact OwB.len OB3.out
              · obtain ⟨v, h1, h2, h3⟩ := (VV3.out x).1 (by rcases hx with h | h; exact h; exact absurd h hxb)
                exact ⟨v, by rw [setO_other hxb]; exact h1, Sl.carry h2 CC, h3⟩
            · intro hx
              have hxb : x ≠ b := fun h => hx (.inr h)
              rw [setO_other hxb]
              exact (VV3.out x).2 (fun h => hx (.inl h))
          have Z9 : Hid (∀ (j : Nat) (q : Qe), j < i + 1 → N ≤ j → L[j]? = some q → zeroB (xorAll q.va (q.of.map V)) = true) := fun j q h1 h2 h3 => ZZ.out j q (by omega) h2 h3
          have OE9 : Hid (OwnE w.heap.size w9 (.slice (some ⟨b0, off, none⟩) k c) k L) := OE3.out.kept fun q hq => XW.out.block q (OwnE.lt OE3.out q hq).2 (OX.out q hq)
          have X9 : Hid (Below w.heap.size w w9) := X3.out.trans (XW.out.below X3.out.size (fun k hk => by rw [hk]; exact Nat.le_refl _))
          clear m7 XW CC MM3 VV3 ZZ OE3 X3 OB3 EBX CZ KT HVB
          go_wp2
          go_roundw
          case rel => exact ⟨i + 1, kk + 1, _, by omega, by go_num, rfl, by omega, M9, V9, Z9, OE9, X9⟩
          case measure => simp [intOf]; omega
      · obtain ⟨hqb, hql⟩ := Q2.out (by omega)
        have eT : (ss.take i).map Prod.snd = ss.map Prod.snd := by rw [List.take_of_length_le (by rw [HNN.out]; omega)]
        have h1 := ON.out
        rw [eT, hql] at h1
        have on0 : on = 0 := h1.symm
        subst on0
        have Z3 : Zs w3 (.slice oa 0 oc) [] := by
          have h2 := OZ3.out.zs
          rw [eT, hql] at h2
          exact h2
        have B3 : Bs w3 (.slice xa size xc) (xorAll va (of.map V)) := by
          have h2 := OwB.bs OB3.out
          rw [eT, knZ_all hql] at h2
          exact h2
        have BL : (xorAll va (of.map V)).length = size := by
          have h2 := OwB.len OB3.out
          rw [eT, knZ_all hql] at h2
          exact h2
        have CH : Hid (Calls Tryz.prog 13 #[.agg #[.slice oa 0 oc, .slice xa size xc], .slice none 0 0] w3 fun e w' => TellsP (zeroB (xorAll va (of.map V)) = true) e ∧ Below w3.heap.size w3 w') := by
          refine (qholds_any _ _ (.slice none 0 0) [] _ [] [] w3 Z3 B3 ⟨rfl, none, 0, rfl, by simp, by simp [maxLen], fun _ => rfl, .inl rfl⟩ ⟨rfl, fun i v p h => by simp at h⟩ (by simp) (by omega)).mono ?_
          rintro e w' ⟨⟨b, h2, h3⟩, h4⟩
          exact ⟨⟨b, h2, h3.trans (holds_nil _)⟩, h4⟩
        have HQB : Hid ((⟨.slice la of.length lc, .slice ba va.length bc, of, va⟩ : Qe) ∈ behindQ fit h ss fit.length) := hqb
        have KT : Hid ((ss.take (i + 1)).map Prod.snd = (ss.take i).map Prod.snd) := by
          unfold Hid
          rw [List.take_of_length_le (by rw [HNN.out]; omega), List.take_of_length_le (by rw [HNN.out]; omega)]
        clear hqb hql eT h1 Z3 B3 BL Q1 Q2 ON OZ3 OB3
        go_wp2_with fail
        refine CH.out.mono ?_
        rintro e w4 ⟨⟨b, rfl, hb⟩, hb4⟩
        have M4 : Hid (MpO w4 w.heap.size kk f) := MM3.out.below hb4
        have V4 : Hid (VmP w4 f ((ss.take (i + 1)).map Prod.snd) V size) := by unfold Hid; rw [KT.out]; exact VV3.out.below hb4
        have OE4 : Hid (OwnE w.heap.size w4 (.slice (some ⟨b0, off, none⟩) k c) k L) := OwnE.below OE3.out hb4
        have X4 : Hid (Below w.heap.size w w4) := X3.out.trans (hb4.mono X3.out.size)
        clear hb4 CH MM3 VV3 OE3 X3 k0 k1
        by_cases hz : zeroB (xorAll va (of.map V)) = true
        · have hbt : b = true := hb.2 hz
          subst hbt
          have Z4 : Hid (∀ (j : Nat) (q : Qe), j < i + 1 → N ≤ j → L[j]? = some q → zeroB (xorAll q.va (q.of.map V)) = true) := fun j q h1 h2 h3 => by
            by_cases hji : j = i
            · subst hji
              rw [HQI.out] at h3
              obtain rfl := Option.some.inj h3
              exact hz
            · exact ZZ.out j q (by omega) h2 h3
          clear hb hz ZZ
          go_wp2
          go_roundw
          case rel => exact ⟨i + 1, kk, f, by omega, by go_num, rfl, by omega, M4, V4, Z4, OE4, X4⟩
          case measure => simp [intOf]; omega
        · have hbf : b = false := by cases b with
            | false => rfl
            | true => exact absurd (hb.1 rfl) hz
          subst hbf
          have NO : Hid (¬ AgQ size ((fitQ all es).map pairQ)) := fun hA => hz (by
            rw [HFIT.out] at hA
            exact AR.out.2 hA _ HQB.out)
          clear hb hz
          go_wp2
          go_ret
          exact ⟨tells_no rfl NO.out, X4.out⟩
    · obtain rfl : k = i := by omega
      have YES : Hid (AgQ size ((fitQ all es).map pairQ)) := by
        unfold Hid
        rw [HFIT.out]
        refine AR.out.1 fun q hq => ?_
        obtain ⟨j, h1, h2⟩ := BE.out q hq
        exact ZZ.out j q (by rw [← HLK.out]; exact (List.getElem?_eq_some_iff.1 h2).1) h1 h2
      clear ZZ
      go_wp2_with fail
      refine (solvable_nil _ _).mono ?_
      rintro e w4 ⟨rfl, hb4⟩
      have X4 : Hid (Below w.heap.size w w4) := XX.out.trans (hb4.mono XX.out.size)
      clear hb4
      go_wp2
      go_ret
      exact ⟨tells_yes rfl YES.out, X4.out⟩

end

end Go.Proofs.YtkckbeekehecnaaGreat
