/-
  equation: Holds, as the program has it; bytes.Clone; a block that may be nil, put upon.
-/
import Derived.Test.YtkcijbejngnalaaQA
import Derived.Test.YtkcijbejngnalaaCoN
import Derived.Deep.DeepCutAuto
import Derived.BigQuiet
namespace Go.Proofs.Ytkcijbejngnalaa
open Go.RowKit
set_option linter.unusedVariables false

/-- One number of a slice, where old memory stays. -/
theorem zs_at {w W : World} {a : Option Addr} {n c i : Nat} {l : List Int} {z : Int} (h : Zs w (.slice a n c) l) (hb : Below w.heap.size w W) (hz : l[i]? = some z) : ∃ b off, a = some ⟨b, off, none⟩ ∧ W.cell? ⟨b, off + i, none⟩ = some (.int .i64 z) := by
  obtain ⟨hi, rfl⟩ := List.getElem?_eq_some_iff.1 hz
  obtain ⟨hl, a', c', hv, _, _, _, h5⟩ := h.below hb
  injection hv with e1 e2 e3
  subst e1
  rcases h5 with h0 | ⟨b, off, e, hc⟩
  · omega
  · exact ⟨b, off, e, hc i _ (map_z_at l i hi)⟩
/-- One value of a row of slices. -/
theorem sl_at {w W : World} {a : Option Addr} {n c i : Nat} {cs : List Value} {u : Value} (h : Sl 1 w (.slice a n c) cs.length cs) (hb : Below w.heap.size w W) (hu : cs[i]? = some u) : ∃ b off, a = some ⟨b, off, none⟩ ∧ W.cell? ⟨b, off + i, none⟩ = some u := by
  have hi := (List.getElem?_eq_some_iff.1 hu).1
  obtain ⟨hl, a', c', hv, _, _, _, h5⟩ := h.below hb
  injection hv with e1 e2 e3
  subst e1
  rcases h5 with h0 | ⟨b, off, e, hc⟩
  · omega
  · exact ⟨b, off, e, hc i _ hu⟩
theorem zs_len {w : World} {a : Option Addr} {n c : Nat} {l : List Int} (h : Zs w (.slice a n c) l) : n = l.length ∧ n ≤ c ∧ c ≤ 9223372036854775807 := by
  obtain ⟨_, a', c', hv, h2, h3, _, _⟩ := h
  injection hv with e1 e2 e3
  unfold maxLen at h3
  omega
theorem bs_len {w : World} {a : Option Addr} {n c : Nat} {l : List UInt8} (h : Bs w (.slice a n c) l) : n = l.length ∧ n ≤ c ∧ c ≤ 9223372036854775807 := by
  obtain ⟨_, a', c', hv, h2, h3, _, _⟩ := h
  injection hv with e1 e2 e3
  unfold maxLen at h3
  omega
theorem bs_shape {w : World} {v : Value} {l : List UInt8} (h : Bs w v l) : ∃ a c, v = .slice a l.length c ∧ l.length ≤ c ∧ c ≤ 9223372036854775807 := by
  obtain ⟨_, a', c', hv, h2, h3, _, _⟩ := h
  unfold maxLen at h3
  exact ⟨a', c', hv, h2, h3⟩
theorem zs_shape {w : World} {v : Value} {l : List Int} (h : Zs w v l) : ∃ a c, v = .slice a l.length c ∧ l.length ≤ c ∧ c ≤ 9223372036854775807 := by
  obtain ⟨_, a', c', hv, h2, h3, _, _⟩ := h
  unfold maxLen at h3
  exact ⟨a', c', hv, h2, h3⟩

set_option maxRecDepth 100000 in
set_option maxHeartbeats 400000 in
/-- put upon nil: nothing. -/
theorem put_nil (vb : Value) (w : World) (hb : Bs w vb []) : Calls Try.prog 85 #[.slice none 0 0, vb] w fun e w' => e = .returned (.tuple #[]) ∧ w' = w := by
  obtain ⟨ao, cb, rfl, h2, h3⟩ := bs_shape hb
  simp only [List.length_nil] at h2 ⊢
  go_enter Try.func85, Try.ntmps85
  go_wp2
  go_loop [8] (fun i => i = .int .i64 0) (fun _ => 0)
  case atStart => rfl
  case round =>
    subst hrel
    go_wp2
    go_end0
    exact ⟨rfl, rfl⟩

set_option maxRecDepth 100000 in
set_option maxHeartbeats 400000 in
/-- Xor upon nil: nothing. -/
theorem xor_nil (p : Nat) (vb : Value) (w : World) (hp : w.cell? ⟨p, 0, none⟩ = some vb) (hb : Bs w vb []) : Calls Try.prog 60 #[.slice none 0 0, .slice (some ⟨p, 0, none⟩) 1 1] w fun e w' => e = .returned (.bool true) ∧ w' = w := by
  have HA := allHave_any (0 : Int) _ [vb] [[]] w (Sl.one hp) (parts_one hb)
  have e1 : ([([] : List UInt8)].all fun l => decide ((l.length : Int) = 0)) = true := by simp
  rw [e1] at HA
  have HA' : Hid (Calls Try.prog 84 #[.int .i64 0, .slice (some ⟨p, 0, none⟩) 1 1] w fun e w' => e = .returned (.bool true) ∧ w' = w) := HA
  have HP : Hid (Calls Try.prog 85 #[.slice none 0 0, vb] w fun e w' => e = .returned (.tuple #[]) ∧ w' = w) := put_nil vb w hb
  obtain ⟨ao, cb, rfl, -, -⟩ := bs_shape hb
  clear HA e1 hb
  go_enter Try.func60, Try.ntmps60
  go_wp2_with fail
  refine HA'.out.mono ?_
  rintro e w1 ⟨rfl, rfl⟩
  go_wp2
  go_loop [14] (fun i => i = .int .i64 0 ∨ i = .int .i64 1) (fun i => 1 - (intOf i).toNat)
  case atStart => exact .inl rfl
  case round =>
    rcases hrel with rfl | rfl
    · go_wp2_with fail
      refine HP.out.mono ?_
      rintro e w2 ⟨rfl, rfl⟩
      go_wp2
      go_round
      case rel => exact .inr rfl
      case measure => simp [intOf]
    · go_wp2
      go_ret
      exact ⟨rfl, rfl⟩

/-- Xor upon bytes of one's own, nil or not: one block, as long, whose row was just laid. -/
theorem xor_own (B : Nat) (a : Option Addr) (n c : Nat) (l b : List UInt8) (vb : Value) (w : World) (hO : OwB B w (.slice a n c) n l) (hb : Bs w vb b) (hlen : b.length = n) (ho : ∀ q, a = some ⟨q, 0, none⟩ → Off q vb) (r : Nat) (hr : r = w.heap.size) :
    Calls Try.prog 60 #[.slice a n c, .slice (some ⟨r, 0, none⟩) 1 1] (w.alloc (.cells #[vb] 25)) fun e w' => e = .returned (.bool true) ∧ OwB B w' (.slice a n c) n (xorL l b) ∧ (w.alloc (.cells #[vb] 25)).grownBy w' (Value.slice a n c).ownBlock := by
  subst hr
  have hl := hO.len
  rcases hO.2 with ⟨h', h0⟩ | ⟨g, cap, cur, hv, hg, hh, hnc, hcm, hcs, ht⟩
  · injection h' with e1 e2 e3
    subst e1; subst e2; subst e3
    obtain rfl : b = [] := List.eq_nil_of_length_eq_zero hlen
    obtain rfl : l = [] := List.eq_nil_of_length_eq_zero hl
    refine (xor_nil w.heap.size vb _ (by rw [World.cell?_alloc_new]; rfl) (hb.below (below_alloc _ _))).mono ?_
    rintro e w' ⟨rfl, rfl⟩
    exact ⟨rfl, hO.below (below_alloc _ _), World.grownBy.refl _ _⟩
  · injection hv with e1 e2 e3
    subst e1; subst e3
    have hO' := hO
    obtain ⟨-, post, hB, hp⟩ := owned_blk hO'
    have hlt := hB.lt
    refine (xor_one g c w.heap.size [] post l b vb _ (hB.below (below_alloc _ _)) (by omega) hcm (by rw [World.cell?_alloc_new]; rfl) (hb.below (below_alloc _ _)) (by omega) (ho g rfl) (by omega) n 0 hl.symm rfl).mono ?_
    rintro e w' ⟨rfl, h1, h2, h3⟩
    refine ⟨rfl, ?_, h2⟩
    have hx : (xorL l b).length = n := by rw [xorL_length (by omega)]; exact hl
    refine ⟨by simpa using hx, .inr ⟨g, c, _, rfl, hg, h1, hnc, hcm, ?_, ?_⟩⟩
    · simp; omega
    · simp [hx]

set_option maxRecDepth 100000 in
set_option maxHeartbeats 400000 in
/-- bytes.Clone. -/
theorem bclone_any (v : Value) (l : List UInt8) (n : Nat) (w : World) (h : Bs w v l) (hn : l.length = n) (hl : n ≤ 1000000000) :
    Calls Try.prog 59 #[v] w fun e w' => ∃ a c, e = .returned (.slice a n c) ∧ OwB w.heap.size w' (.slice a n c) n l ∧ Below w.heap.size w w' := by
  subst hn
  have HB : Hid (Bs w v l) := h
  obtain ⟨-, ao, cap, rfl, h2, h3, h4, -⟩ := h
  unfold maxLen at h3
  cases ao with
  | none =>
    obtain rfl : cap = 0 := h4 rfl
    have e0 : l.length = 0 := by omega
    have e1 : l = [] := List.eq_nil_of_length_eq_zero e0
    subst e1
    simp only [List.length_nil] at HB ⊢
    have en : ∀ W, Sem.run Try.prog (binOp BinOp.eql 25 (Value.slice none 0 0) (Value.slice none 0 0)) W = .ok (.bool true) W := by intro W; kernel_rfl
    clear h4
    go_enter Try.func59, Try.ntmps59
    go_wp2
    go_ret
    exact ⟨_, _, rfl, ⟨rfl, .inl ⟨rfl, rfl⟩⟩, Below.refl _ _⟩
  | some ad =>
    clear h4
    have SLo : Hid (∀ W, Below w.heap.size w W → Sl 1 W (.slice (some ad) l.length cap) l.length (l.map bv)) := fun W hW => HB.out.below hW
    obtain ⟨n, hn⟩ : ∃ n, l.length = n := ⟨_, rfl⟩
    rw [hn] at SLo hl h2 ⊢
    clear hn HB
    have en : ∀ W, Sem.run Try.prog (binOp BinOp.eql 25 (Value.slice (some ad) n cap) (Value.slice none 0 0)) W = .ok (.bool false) W := by intro W; kernel_rfl
    go_enter Try.func59, Try.ntmps59
    go_wp2_with (at_builtin; refine wpList_addB _ rfl (.tmp 5) (.tmp 6) rfl w.heap.size (.slice (some ⟨w.heap.size, 0, none⟩) 0 0) 0 [] rfl (OwB.new w (Nat.le_refl _)) _ n l rfl (SLo.out _ (below_alloc _ _)) (by omega) (by simp) ?_; intro oa oc w3 ho3 hg3 hnc3 hcm3)
    simp only [Nat.zero_add, List.nil_append] at ho3 hnc3
    have X3 : Hid (Below w.heap.size w w3) := below_addB (below_alloc w _) (OwB.new w (Nat.le_refl _)) (Nat.le_refl _) (by simp) hg3
    have O3 : Hid (OwB w.heap.size w3 (.slice oa n oc) n l) := ho3
    clear ho3 hg3 SLo
    go_ret
    exact ⟨_, _, by simp, O3.out, X3.out⟩

end Go.Proofs.Ytkcijbejngnalaa
