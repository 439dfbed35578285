/-
  All of the 64 seeds.
-/
import Derived.Test.YtecohgmllmddhaaShK
namespace Go.Proofs.Ytecohgmllmddhaa

theorem chk_any : ∀ s, s < 64 → checkF s = true := by
  intro s h
  match s, h with
  | 0, _ => exact chk0
  | 1, _ => exact chk1
  | 2, _ => exact chk2
  | 3, _ => exact chk3
  | 4, _ => exact chk4
  | 5, _ => exact chk5
  | 6, _ => exact chk6
  | 7, _ => exact chk7
  | 8, _ => exact chk8
  | 9, _ => exact chk9
  | 10, _ => exact chk10
  | 11, _ => exact chk11
  | 12, _ => exact chk12
  | 13, _ => exact chk13
  | 14, _ => exact chk14
  | 15, _ => exact chk15
  | 16, _ => exact chk16
  | 17, _ => exact chk17
  | 18, _ => exact chk18
  | 19, _ => exact chk19
  | 20, _ => exact chk20
  | 21, _ => exact chk21
  | 22, _ => exact chk22
  | 23, _ => exact chk23
  | 24, _ => exact chk24
  | 25, _ => exact chk25
  | 26, _ => exact chk26
  | 27, _ => exact chk27
  | 28, _ => exact chk28
  | 29, _ => exact chk29
  | 30, _ => exact chk30
  | 31, _ => exact chk31
  | 32, _ => exact chk32
  | 33, _ => exact chk33
  | 34, _ => exact chk34
  | 35, _ => exact chk35
  | 36, _ => exact chk36
  | 37, _ => exact chk37
  | 38, _ => exact chk38
  | 39, _ => exact chk39
  | 40, _ => exact chk40
  | 41, _ => exact chk41
  | 42, _ => exact chk42
  | 43, _ => exact chk43
  | 44, _ => exact chk44
  | 45, _ => exact chk45
  | 46, _ => exact chk46
  | 47, _ => exact chk47
  | 48, _ => exact chk48
  | 49, _ => exact chk49
  | 50, _ => exact chk50
  | 51, _ => exact chk51
  | 52, _ => exact chk52
  | 53, _ => exact chk53
  | 54, _ => exact chk54
  | 55, _ => exact chk55
  | 56, _ => exact chk56
  | 57, _ => exact chk57
  | 58, _ => exact chk58
  | 59, _ => exact chk59
  | 60, _ => exact chk60
  | 61, _ => exact chk61
  | 62, _ => exact chk62
  | 63, _ => exact chk63
  | n + 64, h => omega

end Go.Proofs.Ytecohgmllmddhaa
