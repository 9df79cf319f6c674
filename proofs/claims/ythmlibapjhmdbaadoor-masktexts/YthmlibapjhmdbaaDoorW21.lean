/- The document's examples, reckoned; Of where a number comes twice. -/
import Derived.Test.YthmlibapjhmdbaaDoorW18
import Derived.Test.YthmlibapjhmdbaaDoorW20
namespace Go.Proofs.YthmlibapjhmdbaaDoor
open Go.RowKit Go.Shelf

/-- The mask of 1, 2, 5, 255. -/
def exM : List Nat := [38, 0, 0, 9223372036854775808]
def exT : ByteArray := ⟨#[49, 45, 50, 44, 53, 44, 50, 53, 53]⟩
theorem exM_of : Mk.ofL [5, 1, 2, 255] = exM := by decide +kernel
theorem exM_lc : nums (lc exM 256) = [1, 2, 5, 255] := by decide +kernel
theorem exM_text : textOf exM [1, 2, 5, 255] = exT := by decide +kernel
theorem ex6_lc : nums (lc [6, 0, 0, 0] 256) = [1, 2] := by decide +kernel
theorem ex6_text : textOf [6, 0, 0, 0] [1, 2] = ⟨#[49, 45, 50]⟩ := by decide +kernel
theorem ex_parse : parseOf exT = (exM, 0) := by decide +kernel
theorem ex_parse2 : parseOf ⟨#[49, 44, 50]⟩ = (Mk.zero, 5) := by decide +kernel
theorem ex_low2 : lowOut exM 2 = ([6, 0, 0, 0], 0) := by decide +kernel
theorem ex_low5 : lowOut exM 5 = (Mk.zero, 12) := by decide +kernel
theorem ex_all : Mk.ofL (List.range 256) = [18446744073709551615, 18446744073709551615, 18446744073709551615, 18446744073709551615] := by decide +kernel
theorem ex_cnt : Mk.cnt exM = 4 := by decide +kernel
theorem ex_cntAll : Mk.cnt [18446744073709551615, 18446744073709551615, 18446744073709551615, 18446744073709551615] = 256 := by decide +kernel
theorem ex_minus : zw andN [18446744073709551615, 18446744073709551615, 18446744073709551615, 18446744073709551615] exM = [18446744073709551577, 18446744073709551615, 18446744073709551615, 9223372036854775807] := by decide +kernel
theorem ex_cntMinus : Mk.cnt [18446744073709551577, 18446744073709551615, 18446744073709551615, 9223372036854775807] = 252 := by decide +kernel
theorem ex_has : Mk.hasB exM 255 = true ∧ Mk.hasB exM 0 = false := by decide +kernel
theorem exM_W4 : Mk.W4 exM := by rw [← exM_of]; exact Mk.ofL_W4 (by decide)
end Go.Proofs.YthmlibapjhmdbaaDoor
