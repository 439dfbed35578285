/-
  What a slice reads as, said once for all walks: 'Sl' (elements of so many cells), 'Bs' (bytes). No program.
-/
import Derived.WalkKit
import Derived.WalkSpells
import Derived.WalkLawsBesides
namespace Go.Proofs.Ytjbgfgpclkabjaa
open Go.RowKit

theorem cell_block_lt {w : World} {p : Addr} {u : Value} (h : w.cell? p = some u) : p.block < w.heap.size := by
  by_cases hp : p.block < w.heap.size
  · exact hp
  · exfalso
    have e : w.heap[p.block]? = none := Array.getElem?_eq_none (by omega)
    simp [World.cell?, e] at h

/-- A slice of n elements of 'size' cells each: its cells are cs. -/
def Sl (size : Nat) (w : World) (v : Value) (n : Nat) (cs : List Value) : Prop :=
  cs.length = n * size ∧ ∃ ao cap, v = .slice ao n cap ∧ n ≤ cap ∧ cap ≤ maxLen ∧ (ao = none → cap = 0) ∧
    (n = 0 ∨ ∃ b off, ao = some ⟨b, off, none⟩ ∧ ∀ j u, cs[j]? = some u → w.cell? ⟨b, off + j, none⟩ = some u)

theorem Sl.carry {size : Nat} {w w' : World} {v : Value} {n : Nat} {cs : List Value} (h : Sl size w v n cs)
    (hc : ∀ p u, w.cell? p = some u → w'.cell? p = some u) : Sl size w' v n cs := by
  obtain ⟨h1, ao, cap, hv, h2, h3, h4, h5⟩ := h
  refine ⟨h1, ao, cap, hv, h2, h3, h4, ?_⟩
  rcases h5 with h5 | ⟨b, off, hao, h5⟩
  · exact .inl h5
  · exact .inr ⟨b, off, hao, fun j u hj => hc _ _ (h5 j u hj)⟩

/-- What is read stays read, where old memory stays as it was. -/
theorem Sl.below {size : Nat} {w w' : World} {v : Value} {n : Nat} {cs : List Value} (h : Sl size w v n cs)
    (hb : Below w.heap.size w w') : Sl size w' v n cs :=
  h.carry fun _ _ hp => (hb.cell (cell_block_lt hp)).trans hp

theorem Sl.le {size : Nat} {w : World} {v : Value} {n : Nat} {cs : List Value} (h : Sl size w v n cs) : n ≤ maxLen := by
  obtain ⟨_, _, cap, _, h2, h3, _⟩ := h
  omega

/-- A byte's cell. -/
def bv (x : UInt8) : Value := .int .u8 x.toNat

/-- A slice of bytes. -/
def Bs (w : World) (v : Value) (l : List UInt8) : Prop := Sl 1 w v l.length (l.map bv)

theorem Bs.below {w w' : World} {v : Value} {l : List UInt8} (h : Bs w v l) (hb : Below w.heap.size w w') : Bs w' v l := Sl.below h hb

/-- The cell of one byte. -/
theorem map_bv_at (l : List UInt8) (j : Nat) (h : j < l.length) : (l.map bv)[j]? = some (.int .u8 (l[j].toNat : Int)) := by
  simp [h, bv]

/-- 'append(v, x...)': v is owned, x is any slice that is read: nil, empty or not. -/
theorem wpList_append_sl {P : Program} (w : World) {ops : Array Oper} {rest : List Oper} {o : Oper} {a : Act} {Q : Exit → Act → World → Prop} (hgd : o.guard = none) (s x : Operand) (t : TypeId)
    (ho : o.op = .call { callee := .builtin .append, args := #[s, x], argTypes := #[t, t] })
    (base : Nat) (e : TypeId) (i : TypeInfo) (z : Value) (size bytes : Nat) (ht : P.underlying t = some (.slice e)) (hi : P.info? e = some i) (hz : i.zero = some z)
    (hsize : i.size = size) (hby : i.bytes = bytes) (hzs : z.cells.size = size) (hsz : 0 < size)
    (v : Value) (n : Nat) (xs : List Value) (hs : a.eval s = v) (hown : w.ownsRow base e size v n xs)
    (xv : Value) (m : Nat) (news : List Value) (hx : a.eval x = xv) (hsrc : Sl size w xv m news) (h1 : ∀ u ∈ news, u.oneCell' = true)
    (h63 : n + m ≤ maxLen) (hbytes : (n + m) * bytes ≤ 140737488355328) (hbase : base ≤ w.heap.size)
    (h : ∀ v' w', w'.ownsRow base e size v' (n + m) (xs ++ news) → w.grownBy w' v.ownBlock → wpList P ops Q rest (a.put o.dst v') w') : wpList P ops Q (o :: rest) a w := by
  obtain ⟨hl, ao, cap, hv, hmc, hcm, hnone, hc⟩ := hsrc
  subst hv
  cases ao with
  | some ad =>
    refine wpList_append_own w hgd s x t ho base e i z size bytes ht hi hz hsize hby hzs hsz v n xs hs hown ad m cap news hx hl ?_ h1 h63 hbytes hbase (fun v' w' h2 h3 _ => h v' w' h2 h3)
    intro j u hj
    rcases hc with h0 | ⟨b, off, hao, hc⟩
    · have := (List.getElem?_eq_some_iff.1 hj).1
      rw [hl, h0] at this
      simp at this
    · obtain rfl := Option.some.inj hao
      rw [Addr.add_lit]
      exact hc j u hj
  | none =>
    have hc0 := hnone rfl
    subst hc0
    obtain rfl : m = 0 := by omega
    have hnews : news = [] := List.eq_nil_of_length_eq_zero (by simpa using hl)
    subst hnews
    refine wpList_plain hgd fun K hK' => ?_
    have hrun := run_append_owned_none (P := P) w base t o.type e i size ht hi v n xs hown
    unfold Oper.wp
    simp [execOp, ho, resolve, invoke, builtin, hs, hx, hrun, Result.andThen]
    exact hK' _ _ (by simpa using h v w (by simpa using hown) (World.grownBy.refl _ _))

theorem int_val {k : IntKind} {a b : Int} (h : a = b) : Value.int k a = Value.int k b := by rw [h]
theorem ret_int {k : IntKind} {a b : Int} (h : a = b) : Ending.returned (.int k a) = .returned (.int k b) := by rw [h]

end Go.Proofs.Ytjbgfgpclkabjaa
