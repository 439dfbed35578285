/-
  The walks of package block: allHave, put, Xor, Sum, Zero.
-/
import Derived.Test.YtofbklabapmdcaaRows
import Derived.Test.YtofbklabapmdcaaLBlk
import Derived.Test.YtofbklabapmdcaaLApp
import Derived.Deep.RegionWith
namespace Go.Proofs.Ytofbklabapmdcaa
open Go.RowKit
set_option linter.unusedVariables false

theorem Try.infoByte : (Try.prog.info? 5).map (fun i => (i.zero, i.size, i.bytes)) = some (some (.int .u8 0), 1, 1) := by kernel_rfl

theorem xor_byte (x y : UInt8) : Value.int .u8 (bits BinOp.xor IntKind.u8 (x.toNat : Int) (y.toNat : Int)) = bv (x ^^^ y) := by
  have hx := x.toNat_lt
  have hy := y.toNat_lt
  rw [u8_xor_nat _ _ (by omega) (by omega)]
  simp [bv, UInt8.toNat_xor]

/-- The first k bytes are put. -/
def xorTo (l b : List UInt8) (k : Nat) : List UInt8 := xorL (l.take k) (b.take k) ++ l.drop k

theorem xorTo_zero (l b : List UInt8) : xorTo l b 0 = l := by simp [xorTo, xorL]
theorem xorTo_all (l b : List UInt8) (k : Nat) (hk : l.length ≤ k) (hb : b.length = l.length) : xorTo l b k = xorL l b := by
  simp [xorTo, List.take_of_length_le hk, List.take_of_length_le (show b.length ≤ k by omega), List.drop_eq_nil_of_le hk]
theorem xorTo_length (l b : List UInt8) (k : Nat) (hb : b.length = l.length) : (xorTo l b k).length = l.length := by
  simp [xorTo, xorL, hb]
  omega
theorem xorTo_at (l b : List UInt8) (k : Nat) (hb : b.length = l.length) (hk : k < l.length) : (xorTo l b k)[k]? = some l[k] := by
  have e : (xorL (l.take k) (b.take k)).length = k := by simp [xorL, hb]; omega
  rw [xorTo, List.getElem?_append_right (by omega), e, Nat.sub_self, List.getElem?_drop]
  simp [hk]
theorem xorTo_next (l b : List UInt8) (k : Nat) (hb : b.length = l.length) (hk : k < l.length) : (xorTo l b k).set k (l[k] ^^^ b[k]'(by omega)) = xorTo l b (k + 1) := by
  have e : (xorL (l.take k) (b.take k)).length = k := by simp [xorL, hb]; omega
  have hk' : k < b.length := by omega
  rw [xorTo, List.set_append_right _ _ (by omega), e, Nat.sub_self, List.drop_eq_getElem_cons hk, List.set_cons_zero, xorTo,
    List.take_succ_eq_append_getElem hk, List.take_succ_eq_append_getElem hk']
  unfold xorL
  rw [List.zipWith_append (by simp; omega)]
  simp

set_option maxHeartbeats 400000 in
/-- allHave: it only reads. -/
theorem allHave_any (n : Int) (pv : Value) (vs : List Value) (ls : List (List UInt8)) (w : World) (hp : Sl 1 w pv vs.length vs) (hps : Parts w vs ls) :
    Calls Try.prog 29 #[.int .i64 n, pv] w fun e w' => e = .returned (.bool (ls.all fun l => decide ((l.length : Int) = n))) ∧ w' = w := by
  obtain ⟨_, ao, cap, rfl, h2, h3, _, h5⟩ := hp
  unfold maxLen at h3
  obtain ⟨hlen, hpart⟩ := hps
  obtain ⟨m, hm⟩ : ∃ m, vs.length = m := ⟨_, rfl⟩
  rw [hm] at h2 h5 ⊢
  have Hm : Hid (vs.length = m) := hm
  have Hl : Hid (ls.length = m) := by unfold Hid; omega
  clear hm hlen
  go_enter Try.func29, Try.ntmps29
  go_wp2
  go_loop [9] (fun i => ∃ k : Nat, k ≤ m ∧ i = .int .i64 k ∧ (ls.all fun l => decide ((l.length : Int) = n)) = (ls.drop k).all fun l => decide ((l.length : Int) = n)) (fun i => m - (intOf i).toNat)
  case atStart => exact ⟨0, by omega, rfl, rfl⟩
  case round =>
    obtain ⟨k, hk, rfl, he⟩ := hrel
    have HE : Hid ((ls.all fun l => decide ((l.length : Int) = n)) = (ls.drop k).all fun l => decide ((l.length : Int) = n)) := he
    clear he
    by_cases hlt : k < m
    · have hkv : k < vs.length := by rw [Hm.out]; exact hlt
      have hkl : k < ls.length := by rw [Hl.out]; exact hlt
      rcases h5 with h0 | ⟨b, off, rfl, hc⟩
      · omega
      have hck := hc k vs[k] (List.getElem?_eq_getElem hkv)
      have hb := hpart k vs[k] ls[k] (List.getElem?_eq_getElem hkv) (List.getElem?_eq_getElem hkl)
      obtain ⟨_, ao', c', hv, g2, g3, _, _⟩ := hb
      rw [hv] at hck
      unfold maxLen at g3
      have HD : Hid (((ls.drop k).all fun l => decide ((l.length : Int) = n)) = (decide ((ls[k].length : Int) = n) && (ls.drop (k + 1)).all fun l => decide ((l.length : Int) = n))) := by
        unfold Hid
        rw [List.drop_eq_getElem_cons hkl, List.all_cons]
      clear hv hc hpart
      generalize ls[k].length = q at *
      by_cases hq : (q : Int) = n
      · have hd : decide ((q : Int) = n) = true := by simp [hq]
        rw [hd] at HD
        clear hd
        have hq' : ((q : Int) == n) = true := by simpa using hq
        go_wp2
        go_round
        case rel => exact ⟨k + 1, by omega, by go_num, by rw [HE.out, HD.out, Bool.true_and]⟩
        case measure => simp [intOf]; omega
      · have hd : decide ((q : Int) = n) = false := by simp [hq]
        rw [hd] at HD
        clear hd
        have hq' : ((q : Int) == n) = false := by simpa using hq
        go_wp2
        go_ret
        exact ⟨ret_bool (by rw [HE.out, HD.out, Bool.false_and]), rfl⟩
    · go_wp2
      go_ret
      exact ⟨ret_bool (by rw [HE.out, List.drop_eq_nil_of_le (by rw [Hl.out]; omega)]; rfl), rfl⟩

set_option maxHeartbeats 400000 in
/-- put: one block upon another one, as long; nothing else is turned. -/
theorem put_any (q cap : Nat) (pre post : List Value) (l b : List UInt8) (vb : Value) (w : World) (hB : Blk w q pre l post) (hc : l.length ≤ cap) (hm : cap ≤ maxLen) (hb : Bs w vb b) (hlen : b.length = l.length) (ho : Off q vb) :
    Calls Try.prog 30 #[.slice (some ⟨q, pre.length, none⟩) l.length cap, vb] w fun e w' => e = .returned (.tuple #[]) ∧ Blk w' q pre (xorL l b) post ∧ w.grownBy w' (some q) ∧ w'.heap.size = w.heap.size := by
  unfold maxLen at hm
  have HB : Hid (Bs w vb b) := hb
  obtain ⟨_, ao, cb, rfl, h2, h3, _, _⟩ := hb
  unfold maxLen at h3
  obtain ⟨n, hn⟩ : ∃ n, l.length = n := ⟨_, rfl⟩
  rw [hlen, hn] at HB h2 ⊢
  rw [hlen, hn] at ho
  rw [hn] at hc
  have Hn : Hid (l.length = n) := hn
  have Hb : Hid (b.length = l.length) := hlen
  have HO : Hid (Off q (.slice ao n cb)) := ho
  have HB0 : Hid (Blk w q pre l post) := hB
  clear hn hlen ho hB
  obtain ⟨p, hp⟩ : ∃ p, pre.length = p := ⟨_, rfl⟩
  rw [hp]
  have Hp : Hid (pre.length = p) := hp
  clear hp
  go_enter Try.func30, Try.ntmps30
  go_wp2
  go_loopw [8] (fun i wr => ∃ k : Nat, k ≤ n ∧ i = .int .i64 k ∧ Blk wr q pre (xorTo l b k) post ∧ w.grownBy wr (some q) ∧ wr.heap.size = w.heap.size) (fun i _ => n - (intOf i).toNat)
  case atStart => exact ⟨0, by omega, rfl, by rw [xorTo_zero]; exact HB0.out, World.grownBy.refl _ _, rfl⟩
  case round =>
    obtain ⟨k, hk, rfl, hbl, hgr, hsz⟩ := hrel
    have HG : Hid (w.grownBy wr (some q) ∧ wr.heap.size = w.heap.size) := ⟨hgr, hsz⟩
    have HW : Hid (Blk wr q pre (xorTo l b k) post) := hbl
    clear hbl hgr hsz
    by_cases hlt : k < n
    · have hkl : k < l.length := by rw [Hn.out]; exact hlt
      have hkb : k < b.length := by rw [Hb.out]; exact hkl
      have hc1 : wr.cell? ⟨q, p + k, none⟩ = some (.int .u8 (l[k].toNat : Int)) := by
        rw [← Hp.out]
        exact HW.out.cell k _ (by rw [List.getElem?_map, xorTo_at l b k Hb.out hkl]; rfl)
      have hf1 : wr.frozen? ⟨q, p + k, none⟩ = false := HW.out.frozen _
      obtain ⟨_, a', c', hv, _, _, _, h5⟩ := HB.out.off HO.out HG.out.1
      injection hv with e1 e1b e1c
      subst e1
      rcases h5 with h0 | ⟨bb, bo, e2, hcl⟩
      · omega
      subst e2
      have hc2 := hcl k _ (map_bv_at b k hkb)
      have HS : Hid (Blk (wr.setCell ⟨q, p + k, none⟩ (bv (l[k] ^^^ b[k]))) q pre (xorTo l b (k + 1)) post) := by
        unfold Hid
        rw [← xorTo_next l b k Hb.out hkl, ← Hp.out]
        exact HW.out.set k (by rw [xorTo_length _ _ _ Hb.out]; exact hkl) _
      have HX : Hid (Value.int .u8 (bits BinOp.xor IntKind.u8 (l[k].toNat : Int) (b[k].toNat : Int)) = bv (l[k] ^^^ b[k])) := xor_byte _ _
      clear hcl e1b e1c
      generalize l[k] = x at *
      generalize b[k] = y at *
      have hx := x.toNat_lt
      have hy := y.toNat_lt
      go_wp2
      go_roundw
      case rel =>
        refine ⟨k + 1, by omega, by go_num, by rw [HX.out]; exact HS.out, ?_, ?_⟩
        · exact HG.out.1.trans (grown_setCell wr q _ _)
        · exact (Blk.set_grown wr q _ _).2.trans HG.out.2
      case measure => simp [intOf]; omega
    · go_wp2
      go_end0
      refine ⟨rfl, ?_, HG.out.1, HG.out.2⟩
      have := HW.out
      rw [xorTo_all l b k (by rw [Hn.out]; omega) Hb.out] at this
      exact this

end Go.Proofs.Ytofbklabapmdcaa
