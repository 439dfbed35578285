/-
  The walks of package block: allHave, put, Xor, Sum, Zero.
-/
import Derived.Test.YtbnedpjfgadkkaaRows
import Derived.Test.YtbnedpjfgadkkaaLBlk
import Derived.Test.YtbnedpjfgadkkaaLApp
import Derived.Deep.RegionWith
namespace Go.Proofs.Ytbnedpjfgadkkaa
open Go.RowKit
set_option linter.unusedVariables false

theorem Try.infoByte : (Try.prog.info? 5).map (fun i => (i.zero, i.size, i.bytes)) = some (some (.int .u8 0), 1, 1) := by kernel_rfl

theorem xor_byte (x y : UInt8) : Value.int .u8 (bits BinOp.xor IntKind.u8 (x.toNat : Int) (y.toNat : Int)) = bv (x ^^^ y) := by
  have hx := x.toNat_lt
  have hy := y.toNat_lt
  rw [u8_xor_nat _ _ (by omega) (by omega)]
  simp [bv, UInt8.toNat_xor]

/-- The first k bytes are put. -/
def xorTo (l b : List UInt8) (k : Nat) : List UInt8 := xorL (l.take k) (b.take k) ++ l.drop k

theorem xorTo_zero (l b : List UInt8) : xorTo l b 0 = l := by simp [xorTo, xorL]
theorem xorTo_all (l b : List UInt8) (k : Nat) (hk : l.length ≤ k) (hb : b.length = l.length) : xorTo l b k = xorL l b := by
  simp [xorTo, List.take_of_length_le hk, List.take_of_length_le (show b.length ≤ k by omega), List.drop_eq_nil_of_le hk]
theorem xorTo_length (l b : List UInt8) (k : Nat) (hb : b.length = l.length) : (xorTo l b k).length = l.length := by
  simp [xorTo, xorL, hb]
  omega
theorem xorTo_at (l b : List UInt8) (k : Nat) (hb : b.length = l.length) (hk : k < l.length) : (xorTo l b k)[k]? = some l[k] := by
  have e : (xorL (l.take k) (b.take k)).length = k := by simp [xorL, hb]; omega
  rw [xorTo, List.getElem?_append_right (by omega), e, Nat.sub_self, List.getElem?_drop]
  simp [hk]
theorem xorTo_next (l b : List UInt8) (k : Nat) (hb : b.length = l.length) (hk : k < l.length) : (xorTo l b k).set k (l[k] ^^^ b[k]'(by omega)) = xorTo l b (k + 1) := by
  have e : (xorL (l.take k) (b.take k)).length = k := by simp [xorL, hb]; omega
  have hk' : k < b.length := by omega
  rw [xorTo, List.set_append_right _ _ (by omega), e, Nat.sub_self, List.drop_eq_getElem_cons hk, List.set_cons_zero, xorTo,
    List.take_succ_eq_append_getElem hk, List.take_succ_eq_append_getElem hk']
  unfold xorL
  rw [List.zipWith_append (by simp; omega)]
  simp

end Go.Proofs.Ytbnedpjfgadkkaa
