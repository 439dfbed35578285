/-
  What slices read as, what blocks of bytes hold, what stays where something else is written: said once for all walks. No program.
-/
import Derived.WalkKit
import Derived.WalkSpells
import Derived.WalkLawsBesides
namespace Go.Proofs.Ytbnedpjfgadkkaa
open Go.RowKit
set_option linter.unusedVariables false

theorem cell_block_lt {w : World} {p : Addr} {u : Value} (h : w.cell? p = some u) : p.block < w.heap.size := by
  by_cases hp : p.block < w.heap.size
  · exact hp
  · exfalso
    have e : w.heap[p.block]? = none := Array.getElem?_eq_none (by omega)
    simp [World.cell?, e] at h

/-- A slice of n elements of 'size' cells each: its cells are cs. -/
def Sl (size : Nat) (w : World) (v : Value) (n : Nat) (cs : List Value) : Prop :=
  cs.length = n * size ∧ ∃ ao cap, v = .slice ao n cap ∧ n ≤ cap ∧ cap ≤ maxLen ∧ (ao = none → cap = 0) ∧
    (n = 0 ∨ ∃ b off, ao = some ⟨b, off, none⟩ ∧ ∀ j u, cs[j]? = some u → w.cell? ⟨b, off + j, none⟩ = some u)

theorem Sl.carry {size : Nat} {w w' : World} {v : Value} {n : Nat} {cs : List Value} (h : Sl size w v n cs)
    (hc : ∀ p u, w.cell? p = some u → w'.cell? p = some u) : Sl size w' v n cs := by
  obtain ⟨h1, ao, cap, hv, h2, h3, h4, h5⟩ := h
  refine ⟨h1, ao, cap, hv, h2, h3, h4, ?_⟩
  rcases h5 with h5 | ⟨b, off, hao, h5⟩
  · exact .inl h5
  · exact .inr ⟨b, off, hao, fun j u hj => hc _ _ (h5 j u hj)⟩

/-- What is read stays read, where old memory stays as it was. -/
theorem Sl.below {size : Nat} {w w' : World} {v : Value} {n : Nat} {cs : List Value} (h : Sl size w v n cs)
    (hb : Below w.heap.size w w') : Sl size w' v n cs :=
  h.carry fun _ _ hp => (hb.cell (cell_block_lt hp)).trans hp

theorem Sl.le {size : Nat} {w : World} {v : Value} {n : Nat} {cs : List Value} (h : Sl size w v n cs) : n ≤ maxLen := by
  obtain ⟨_, _, cap, _, h2, h3, _⟩ := h
  omega

/-- A byte's cell. -/
def bv (x : UInt8) : Value := .int .u8 x.toNat

/-- A slice of bytes. -/
def Bs (w : World) (v : Value) (l : List UInt8) : Prop := Sl 1 w v l.length (l.map bv)

theorem Bs.below {w w' : World} {v : Value} {l : List UInt8} (h : Bs w v l) (hb : Below w.heap.size w w') : Bs w' v l := Sl.below h hb

/-- The cell of one byte. -/
theorem map_bv_at (l : List UInt8) (j : Nat) (h : j < l.length) : (l.map bv)[j]? = some (.int .u8 (l[j].toNat : Int)) := by
  simp [h, bv]

/-- 'append(v, x...)': v is owned, x is any slice that is read: nil, empty or not. -/
theorem wpList_append_sl {P : Program} (w : World) {ops : Array Oper} {rest : List Oper} {o : Oper} {a : Act} {Q : Exit → Act → World → Prop} (hgd : o.guard = none) (s x : Operand) (t : TypeId)
    (ho : o.op = .call { callee := .builtin .append, args := #[s, x], argTypes := #[t, t] })
    (base : Nat) (e : TypeId) (i : TypeInfo) (z : Value) (size bytes : Nat) (ht : P.underlying t = some (.slice e)) (hi : P.info? e = some i) (hz : i.zero = some z)
    (hsize : i.size = size) (hby : i.bytes = bytes) (hzs : z.cells.size = size) (hsz : 0 < size)
    (v : Value) (n : Nat) (xs : List Value) (hs : a.eval s = v) (hown : w.ownsRow base e size v n xs)
    (xv : Value) (m : Nat) (news : List Value) (hx : a.eval x = xv) (hsrc : Sl size w xv m news) (h1 : ∀ u ∈ news, u.oneCell' = true)
    (h63 : n + m ≤ maxLen) (hbytes : (n + m) * bytes ≤ 140737488355328) (hbase : base ≤ w.heap.size)
    (h : ∀ v' w', w'.ownsRow base e size v' (n + m) (xs ++ news) → w.grownBy w' v.ownBlock → wpList P ops Q rest (a.put o.dst v') w') : wpList P ops Q (o :: rest) a w := by
  obtain ⟨hl, ao, cap, hv, hmc, hcm, hnone, hc⟩ := hsrc
  subst hv
  cases ao with
  | some ad =>
    refine wpList_append_own w hgd s x t ho base e i z size bytes ht hi hz hsize hby hzs hsz v n xs hs hown ad m cap news hx hl ?_ h1 h63 hbytes hbase (fun v' w' h2 h3 _ => h v' w' h2 h3)
    intro j u hj
    rcases hc with h0 | ⟨b, off, hao, hc⟩
    · have := (List.getElem?_eq_some_iff.1 hj).1
      rw [hl, h0] at this
      simp at this
    · obtain rfl := Option.some.inj hao
      rw [Addr.add_lit]
      exact hc j u hj
  | none =>
    have hc0 := hnone rfl
    subst hc0
    obtain rfl : m = 0 := by omega
    have hnews : news = [] := List.eq_nil_of_length_eq_zero (by simpa using hl)
    subst hnews
    refine wpList_plain hgd fun K hK' => ?_
    have hrun := run_append_owned_none (P := P) w base t o.type e i size ht hi v n xs hown
    unfold Oper.wp
    simp [execOp, ho, resolve, invoke, builtin, hs, hx, hrun, Result.andThen]
    exact hK' _ _ (by simpa using h v w (by simpa using hown) (World.grownBy.refl _ _))

theorem int_val {k : IntKind} {a b : Int} (h : a = b) : Value.int k a = Value.int k b := by rw [h]
theorem ret_int {k : IntKind} {a b : Int} (h : a = b) : Ending.returned (.int k a) = .returned (.int k b) := by rw [h]

/-- Each of some slices reads as one of some rows of bytes. -/
def Parts (w : World) (vs : List Value) (ps : List (List UInt8)) : Prop :=
  vs.length = ps.length ∧ ∀ (i : Nat) v p, vs[i]? = some v → ps[i]? = some p → Bs w v p

theorem Parts.below {w w' : World} {vs : List Value} {ps : List (List UInt8)} (h : Parts w vs ps) (hb : Below w.heap.size w w') : Parts w' vs ps :=
  ⟨h.1, fun i v p hv hp => (h.2 i v p hv hp).below hb⟩

theorem owned_slN {w : World} {base : Nat} {e : TypeId} {size : Nat} {v : Value} {n : Nat} {cs : List Value} (h : w.ownsRow base e size v n cs) : Sl size w v n cs := by
  obtain ⟨h1, h2⟩ := h
  refine ⟨h1, ?_⟩
  rcases h2 with ⟨rfl, rfl⟩ | ⟨g, cap, cur, rfl, hg, hh, hnc, hcm, hcs, htake⟩
  · exact ⟨none, 0, rfl, by omega, by simp [maxLen], fun _ => rfl, .inl rfl⟩
  · refine ⟨some ⟨g, 0, none⟩, cap, rfl, hnc, hcm, fun h => by simp at h, .inr ⟨g, 0, rfl, ?_⟩⟩
    intro j u hj
    have hjl : j < cs.length := (List.getElem?_eq_some_iff.1 hj).1
    rw [← htake] at hj
    rw [List.getElem?_take] at hj
    simp only [World.cell?, hh]
    split at hj
    · simpa using hj
    · simp at hj

theorem owns_kept {w w' : World} {base : Nat} {e : TypeId} {size : Nat} {v : Value} {n : Nat} {xs : List Value} (h : w.ownsRow base e size v n xs) (hk : ∀ q, v.ownBlock = some q → w'.heap[q]? = w.heap[q]?) : w'.ownsRow base e size v n xs := by
  refine ⟨h.1, ?_⟩
  rcases h.2 with h' | ⟨g, cap, cur, hv, hg, hh, hx⟩
  · exact .inl h'
  · refine .inr ⟨g, cap, cur, hv, hg, ?_, hx⟩
    rw [hk g (by rw [hv]; rfl)]
    exact hh

theorem owned_sl {w : World} {base : Nat} {e : TypeId} {v : Value} {n : Nat} {cs : List Value} (h : w.ownsRow base e 1 v n cs) : Sl 1 w v n cs := owned_slN h

theorem bv_oneCell (l : List UInt8) : ∀ u ∈ l.map bv, u.oneCell' = true := by
  intro u hu
  obtain ⟨_, _, rfl⟩ := List.mem_map.1 hu
  rfl

theorem alloc_one {w : World} (x : Value) (e : TypeId) : Sl 1 (w.alloc (.cells #[x] e)) (.slice (some ⟨w.heap.size, 0, none⟩) 1 1) [x].length [x] := by
  refine ⟨rfl, _, _, rfl, Nat.le_refl _, by simp [maxLen], fun h => by simp at h, .inr ⟨_, _, rfl, ?_⟩⟩
  intro j u hj
  have : j = 0 := by have := (List.getElem?_eq_some_iff.1 hj).1; simp at this; omega
  subst this
  simp at hj
  subst hj
  simp

theorem parts_one {w : World} {v : Value} {l : List UInt8} (h : Bs w v l) : Parts w [v] [l] := by
  refine ⟨rfl, fun i u p hu hp => ?_⟩
  have : i = 0 := by have := (List.getElem?_eq_some_iff.1 hu).1; simp at this; omega
  subst this
  simp at hu hp
  subst hu; subst hp
  exact h

theorem parts_two {w : World} {v v' : Value} {l l' : List UInt8} (h : Bs w v l) (h' : Bs w v' l') : Parts w [v, v'] [l, l'] := by
  refine ⟨rfl, fun i u p hu hp => ?_⟩
  have hi : i < 2 := by have := (List.getElem?_eq_some_iff.1 hu).1; simpa using this
  match i, hi with
  | 0, _ => simp at hu hp; subst hu; subst hp; exact h
  | 1, _ => simp at hu hp; subst hu; subst hp; exact h'

/-- A literal's row, as it lies. -/
theorem Bs.lit (w : World) (C : Array Value) (t : TypeId) (fr : Nat × Nat) (l : List UInt8) (b n : Nat) (hb : b = w.heap.size) (hn : n = l.length) (hC : C = (l.map bv).toArray) (hl : l.length ≤ 1000000) :
    Bs (w.alloc (.cells C t fr)) (.slice (some ⟨b, 0, none⟩) n n) l := by
  subst hb; subst hn
  refine ⟨by simp, _, _, rfl, Nat.le_refl _, by unfold maxLen; omega, fun h => by simp at h, .inr ⟨_, _, rfl, ?_⟩⟩
  intro j u hj
  rw [World.cell?_alloc_mark, hC, Nat.zero_add]
  simpa using hj

theorem Sl.lit (w : World) (cs : List Value) (t : TypeId) (b n : Nat) (hb : b = w.heap.size) (hn : n = cs.length) (hl : cs.length ≤ 1000000) :
    Sl 1 (w.alloc (.cells cs.toArray t)) (.slice (some ⟨b, 0, none⟩) n n) cs.length cs := by
  subst hb; subst hn
  refine ⟨by simp, _, _, rfl, Nat.le_refl _, by unfold maxLen; omega, fun h => by simp at h, .inr ⟨_, _, rfl, ?_⟩⟩
  intro j u hj
  rw [World.cell?_alloc_new, Nat.zero_add]
  simpa using hj

/-- A slice that owns something has an address. -/
theorem owned_shape {w : World} {base : Nat} {e : TypeId} {v : Value} {n : Nat} {cs : List Value} (h : w.ownsRow base e 1 v n cs) (hn : 0 < n) : ∃ q cap, v = .slice (some ⟨q, 0, none⟩) n cap ∧ base ≤ q ∧ n ≤ cap ∧ cap ≤ maxLen := by
  rcases h.2 with ⟨_, h0⟩ | ⟨g, cap, cur, rfl, hb, _, hnc, hcm, _⟩
  · omega
  · exact ⟨g, cap, rfl, hb, hnc, hcm⟩

theorem below0 (w : World) : Below w.heap.size w w.drew := (Below.refl _ _).drew
theorem below_alloc (W : World) (o : Obj) : Below W.heap.size W (W.alloc o) := (Below.refl _ _).alloc (Nat.le_refl _) _

/-- A slice of one, and what lies in it. -/
def OneIn (v u : Value) (W : World) : Prop := ∃ p, v = .slice (some ⟨p, 0, none⟩) 1 1 ∧ W.cell? ⟨p, 0, none⟩ = some u

theorem OneIn.below {v u : Value} {W W' : World} (h : OneIn v u W) (hb : Below W.heap.size W W') : OneIn v u W' := by
  obtain ⟨p, h1, h2⟩ := h
  exact ⟨p, h1, (hb.cell (cell_block_lt h2)).trans h2⟩

/-- Bytes as a string. -/
def str (l : List UInt8) : ByteArray := ⟨l.toArray⟩

theorem foldl_push (l : List UInt8) : ∀ r : ByteArray, (l.map fun b => (b.toNat : Int)).foldl (fun r n => r.push (UInt8.ofNat n.toNat)) r = ⟨r.data ++ l.toArray⟩ := by
  induction l with
  | nil => intro r; simp
  | cons b l ih =>
    intro r
    simp only [List.map_cons, List.foldl_cons, ih]
    congr 1
    simp [ByteArray.push]

theorem str_toList (l : List UInt8) : (str l).toList = l := ByteArray.toList_mk l

theorem ret_bool {a b : Bool} (h : a = b) : Ending.returned (.bool a) = .returned (.bool b) := by rw [h]

/-- The first N bytes of a slice. -/
theorem Bs.take {W : World} {a : Option Addr} {n c N : Nat} {l : List UInt8} (h : Bs W (.slice a n c) l) (hN : N ≤ l.length) : Bs W (.slice a N c) (l.take N) := by
  obtain ⟨h1, a', c', hv, h2, h3, h4, h5⟩ := h
  injection hv with e1 e2 e3
  subst e1; subst e2; subst e3
  have hl : (l.take N).length = N := by simp; omega
  unfold Bs
  rw [hl]
  refine ⟨by simp; omega, a, c, rfl, by omega, h3, h4, ?_⟩
  rcases h5 with h0 | ⟨b, off, hao, hc⟩
  · exact .inl (by omega)
  · refine .inr ⟨b, off, hao, ?_⟩
    intro j u hj
    have hjn : j < N := by have := (List.getElem?_eq_some_iff.1 hj).1; simp at this; omega
    rw [List.map_take, List.getElem?_take, if_pos hjn] at hj
    exact hc j u hj

theorem cell_at {w : World} {b off : Nat} {l : List UInt8} (hc : ∀ j u, (l.map bv)[j]? = some u → w.cell? ⟨b, off + j, none⟩ = some u) (k : Nat) (h : k < l.length) : w.cell? ⟨b, off + k, none⟩ = some (.int .u8 ((l.getD k 0).toNat : Int)) := by
  rw [hc k _ (map_bv_at l k h)]
  simp [List.getD, h]

theorem grown_setCell (w : World) (r j : Nat) (u : Value) : w.grownBy (w.setCell ⟨r, j, none⟩ u) (some r) :=
  ⟨rfl, rfl, rfl, by simp [World.setCell], fun k _ hk => Below.heap_setCell w ⟨r, j, none⟩ u k (fun e => hk (by rw [e]))⟩

end Go.Proofs.Ytbnedpjfgadkkaa
