/-
  How many check blocks of 4000 are made of one block, by 64 sessions, one by one: reckoned by the kernel.
-/
import Derived.Test.YtbnedpjfgadkkaaIShM
namespace Go.Proofs.Ytbnedpjfgadkkaa

theorem okS0 : okS 0 = true := by decide +kernel
theorem okS1 : okS 1 = true := by decide +kernel
theorem okS2 : okS 2 = true := by decide +kernel
theorem okS3 : okS 3 = true := by decide +kernel
theorem okS4 : okS 4 = true := by decide +kernel
theorem okS5 : okS 5 = true := by decide +kernel
theorem okS6 : okS 6 = true := by decide +kernel
theorem okS7 : okS 7 = true := by decide +kernel
theorem okS8 : okS 8 = true := by decide +kernel
theorem okS9 : okS 9 = true := by decide +kernel
theorem okS10 : okS 10 = true := by decide +kernel
theorem okS11 : okS 11 = true := by decide +kernel
theorem okS12 : okS 12 = true := by decide +kernel
theorem okS13 : okS 13 = true := by decide +kernel
theorem okS14 : okS 14 = true := by decide +kernel
theorem okS15 : okS 15 = true := by decide +kernel
theorem okS16 : okS 16 = true := by decide +kernel
theorem okS17 : okS 17 = true := by decide +kernel
theorem okS18 : okS 18 = true := by decide +kernel
theorem okS19 : okS 19 = true := by decide +kernel
theorem okS20 : okS 20 = true := by decide +kernel
theorem okS21 : okS 21 = true := by decide +kernel
theorem okS22 : okS 22 = true := by decide +kernel
theorem okS23 : okS 23 = true := by decide +kernel
theorem okS24 : okS 24 = true := by decide +kernel
theorem okS25 : okS 25 = true := by decide +kernel
theorem okS26 : okS 26 = true := by decide +kernel
theorem okS27 : okS 27 = true := by decide +kernel
theorem okS28 : okS 28 = true := by decide +kernel
theorem okS29 : okS 29 = true := by decide +kernel
theorem okS30 : okS 30 = true := by decide +kernel
theorem okS31 : okS 31 = true := by decide +kernel
theorem okS32 : okS 32 = true := by decide +kernel
theorem okS33 : okS 33 = true := by decide +kernel
theorem okS34 : okS 34 = true := by decide +kernel
theorem okS35 : okS 35 = true := by decide +kernel
theorem okS36 : okS 36 = true := by decide +kernel
theorem okS37 : okS 37 = true := by decide +kernel
theorem okS38 : okS 38 = true := by decide +kernel
theorem okS39 : okS 39 = true := by decide +kernel
theorem okS40 : okS 40 = true := by decide +kernel
theorem okS41 : okS 41 = true := by decide +kernel
theorem okS42 : okS 42 = true := by decide +kernel
theorem okS43 : okS 43 = true := by decide +kernel
theorem okS44 : okS 44 = true := by decide +kernel
theorem okS45 : okS 45 = true := by decide +kernel
theorem okS46 : okS 46 = true := by decide +kernel
theorem okS47 : okS 47 = true := by decide +kernel
theorem okS48 : okS 48 = true := by decide +kernel
theorem okS49 : okS 49 = true := by decide +kernel
theorem okS50 : okS 50 = true := by decide +kernel
theorem okS51 : okS 51 = true := by decide +kernel
theorem okS52 : okS 52 = true := by decide +kernel
theorem okS53 : okS 53 = true := by decide +kernel
theorem okS54 : okS 54 = true := by decide +kernel
theorem okS55 : okS 55 = true := by decide +kernel
theorem okS56 : okS 56 = true := by decide +kernel
theorem okS57 : okS 57 = true := by decide +kernel
theorem okS58 : okS 58 = true := by decide +kernel
theorem okS59 : okS 59 = true := by decide +kernel
theorem okS60 : okS 60 = true := by decide +kernel
theorem okS61 : okS 61 = true := by decide +kernel
theorem okS62 : okS 62 = true := by decide +kernel
theorem okS63 : okS 63 = true := by decide +kernel

theorem okS_any : ∀ s, s < 64 → okS s = true := by
  intro s h
  match s, h with
  | 0, _ => exact okS0
  | 1, _ => exact okS1
  | 2, _ => exact okS2
  | 3, _ => exact okS3
  | 4, _ => exact okS4
  | 5, _ => exact okS5
  | 6, _ => exact okS6
  | 7, _ => exact okS7
  | 8, _ => exact okS8
  | 9, _ => exact okS9
  | 10, _ => exact okS10
  | 11, _ => exact okS11
  | 12, _ => exact okS12
  | 13, _ => exact okS13
  | 14, _ => exact okS14
  | 15, _ => exact okS15
  | 16, _ => exact okS16
  | 17, _ => exact okS17
  | 18, _ => exact okS18
  | 19, _ => exact okS19
  | 20, _ => exact okS20
  | 21, _ => exact okS21
  | 22, _ => exact okS22
  | 23, _ => exact okS23
  | 24, _ => exact okS24
  | 25, _ => exact okS25
  | 26, _ => exact okS26
  | 27, _ => exact okS27
  | 28, _ => exact okS28
  | 29, _ => exact okS29
  | 30, _ => exact okS30
  | 31, _ => exact okS31
  | 32, _ => exact okS32
  | 33, _ => exact okS33
  | 34, _ => exact okS34
  | 35, _ => exact okS35
  | 36, _ => exact okS36
  | 37, _ => exact okS37
  | 38, _ => exact okS38
  | 39, _ => exact okS39
  | 40, _ => exact okS40
  | 41, _ => exact okS41
  | 42, _ => exact okS42
  | 43, _ => exact okS43
  | 44, _ => exact okS44
  | 45, _ => exact okS45
  | 46, _ => exact okS46
  | 47, _ => exact okS47
  | 48, _ => exact okS48
  | 49, _ => exact okS49
  | 50, _ => exact okS50
  | 51, _ => exact okS51
  | 52, _ => exact okS52
  | 53, _ => exact okS53
  | 54, _ => exact okS54
  | 55, _ => exact okS55
  | 56, _ => exact okS56
  | 57, _ => exact okS57
  | 58, _ => exact okS58
  | 59, _ => exact okS59
  | 60, _ => exact okS60
  | 61, _ => exact okS61
  | 62, _ => exact okS62
  | 63, _ => exact okS63
  | n + 64, h => omega

end Go.Proofs.Ytbnedpjfgadkkaa
