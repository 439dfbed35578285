/-
  How often each degree is drawn, by 64 seeds, one by one: reckoned by the kernel.
-/
import Derived.Test.YtecohgmllmddhaaShM
namespace Go.Proofs.Ytecohgmllmddhaa

theorem chk0 : checkF 0 = true := by decide +kernel
theorem chk1 : checkF 1 = true := by decide +kernel
theorem chk2 : checkF 2 = true := by decide +kernel
theorem chk3 : checkF 3 = true := by decide +kernel
theorem chk4 : checkF 4 = true := by decide +kernel
theorem chk5 : checkF 5 = true := by decide +kernel
theorem chk6 : checkF 6 = true := by decide +kernel
theorem chk7 : checkF 7 = true := by decide +kernel
theorem chk8 : checkF 8 = true := by decide +kernel
theorem chk9 : checkF 9 = true := by decide +kernel
theorem chk10 : checkF 10 = true := by decide +kernel
theorem chk11 : checkF 11 = true := by decide +kernel
theorem chk12 : checkF 12 = true := by decide +kernel
theorem chk13 : checkF 13 = true := by decide +kernel
theorem chk14 : checkF 14 = true := by decide +kernel
theorem chk15 : checkF 15 = true := by decide +kernel
theorem chk16 : checkF 16 = true := by decide +kernel
theorem chk17 : checkF 17 = true := by decide +kernel
theorem chk18 : checkF 18 = true := by decide +kernel
theorem chk19 : checkF 19 = true := by decide +kernel
theorem chk20 : checkF 20 = true := by decide +kernel
theorem chk21 : checkF 21 = true := by decide +kernel
theorem chk22 : checkF 22 = true := by decide +kernel
theorem chk23 : checkF 23 = true := by decide +kernel
theorem chk24 : checkF 24 = true := by decide +kernel
theorem chk25 : checkF 25 = true := by decide +kernel
theorem chk26 : checkF 26 = true := by decide +kernel
theorem chk27 : checkF 27 = true := by decide +kernel
theorem chk28 : checkF 28 = true := by decide +kernel
theorem chk29 : checkF 29 = true := by decide +kernel
theorem chk30 : checkF 30 = true := by decide +kernel
theorem chk31 : checkF 31 = true := by decide +kernel
theorem chk32 : checkF 32 = true := by decide +kernel
theorem chk33 : checkF 33 = true := by decide +kernel
theorem chk34 : checkF 34 = true := by decide +kernel
theorem chk35 : checkF 35 = true := by decide +kernel
theorem chk36 : checkF 36 = true := by decide +kernel
theorem chk37 : checkF 37 = true := by decide +kernel
theorem chk38 : checkF 38 = true := by decide +kernel
theorem chk39 : checkF 39 = true := by decide +kernel
theorem chk40 : checkF 40 = true := by decide +kernel
theorem chk41 : checkF 41 = true := by decide +kernel
theorem chk42 : checkF 42 = true := by decide +kernel
theorem chk43 : checkF 43 = true := by decide +kernel
theorem chk44 : checkF 44 = true := by decide +kernel
theorem chk45 : checkF 45 = true := by decide +kernel
theorem chk46 : checkF 46 = true := by decide +kernel
theorem chk47 : checkF 47 = true := by decide +kernel
theorem chk48 : checkF 48 = true := by decide +kernel
theorem chk49 : checkF 49 = true := by decide +kernel
theorem chk50 : checkF 50 = true := by decide +kernel
theorem chk51 : checkF 51 = true := by decide +kernel
theorem chk52 : checkF 52 = true := by decide +kernel
theorem chk53 : checkF 53 = true := by decide +kernel
theorem chk54 : checkF 54 = true := by decide +kernel
theorem chk55 : checkF 55 = true := by decide +kernel
theorem chk56 : checkF 56 = true := by decide +kernel
theorem chk57 : checkF 57 = true := by decide +kernel
theorem chk58 : checkF 58 = true := by decide +kernel
theorem chk59 : checkF 59 = true := by decide +kernel
theorem chk60 : checkF 60 = true := by decide +kernel
theorem chk61 : checkF 61 = true := by decide +kernel
theorem chk62 : checkF 62 = true := by decide +kernel
theorem chk63 : checkF 63 = true := by decide +kernel

end Go.Proofs.Ytecohgmllmddhaa
