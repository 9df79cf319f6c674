/- The leaf functions of mask and cores: isCore, within, count. -/
import Derived.Test.YthmlibapjhmdbaaRows
import Derived.Test.YthmlibapjhmdbaaRow
import Derived.WalkKit
import Derived.WalkSpells
import Derived.WalkLawsBesides
import Derived.BigQuiet
import Derived.Deep.QuietTactic
import Derived.IntWalk
import Derived.Lib.Hide
import Derived.Laws.BitsAllLaws
import Derived.Deep.RegionHeld3
import Derived.Deep.DeepCutAuto
import Derived.StillTailTactics
namespace Go.Proofs.Ythmlibapjhmdbaa
open Go.RowKit

set_option maxHeartbeats 400000 in
theorem isCore_yes (c : Int) (w : World) (h0 : 0 ≤ c) (h1 : c < 256) :
    Calls Try.prog 72 #[.int .i64 c] w fun e w' => e = .returned (.bool true) ∧ w = w' := by
  go_enter Try.func72, Try.ntmps72
  go_wp2
  go_ret
  exact ⟨rfl, rfl⟩

set_option maxHeartbeats 400000 in
theorem isCore_low (c : Int) (w : World) (h0 : c < 0) :
    Calls Try.prog 72 #[.int .i64 c] w fun e w' => e = .returned (.bool false) ∧ w = w' := by
  have hd : decide (0 ≤ c) = false := by simp; omega
  go_enter Try.func72, Try.ntmps72
  go_wp2
  go_ret
  exact ⟨rfl, rfl⟩

set_option maxHeartbeats 400000 in
theorem isCore_high (c : Int) (w : World) (h0 : 256 ≤ c) :
    Calls Try.prog 72 #[.int .i64 c] w fun e w' => e = .returned (.bool false) ∧ w = w' := by
  have h1 : 0 ≤ c := by omega
  have hd : decide (c < 256) = false := by simp; omega
  go_enter Try.func72, Try.ntmps72
  go_wp2
  go_ret
  exact ⟨rfl, rfl⟩
theorem isCore_no (c : Int) (w : World) (h : c < 0 ∨ 256 ≤ c) :
    Calls Try.prog 72 #[.int .i64 c] w fun e w' => e = .returned (.bool false) ∧ w = w' := by
  rcases h with h | h
  · exact isCore_low c w h
  · exact isCore_high c w h

set_option maxHeartbeats 400000 in
theorem within_yes (c m : Int) (w : World) (h0 : 1 ≤ c) (h1 : c ≤ m) :
    Calls Try.prog 49 #[.int .i64 c, .int .i64 m] w fun e w' => e = .returned (.bool true) ∧ w = w' := by
  go_enter Try.func49, Try.ntmps49
  go_wp2
  go_ret
  exact ⟨rfl, rfl⟩
set_option maxHeartbeats 400000 in
theorem within_low (c m : Int) (w : World) (h0 : c < 1) :
    Calls Try.prog 49 #[.int .i64 c, .int .i64 m] w fun e w' => e = .returned (.bool false) ∧ w = w' := by
  have hd : decide (1 ≤ c) = false := by simp; omega
  go_enter Try.func49, Try.ntmps49
  go_wp2
  go_ret
  exact ⟨rfl, rfl⟩
set_option maxHeartbeats 400000 in
theorem within_high (c m : Int) (w : World) (h0 : 1 ≤ c) (h1 : m < c) :
    Calls Try.prog 49 #[.int .i64 c, .int .i64 m] w fun e w' => e = .returned (.bool false) ∧ w = w' := by
  have hd : decide (c ≤ m) = false := by simp; omega
  go_enter Try.func49, Try.ntmps49
  go_wp2
  go_ret
  exact ⟨rfl, rfl⟩
theorem within_no (c m : Int) (w : World) (h : c < 1 ∨ m < c) :
    Calls Try.prog 49 #[.int .i64 c, .int .i64 m] w fun e w' => e = .returned (.bool false) ∧ w = w' := by
  by_cases h0 : c < 1
  · exact within_low c m w h0
  · exact within_high c m w (by omega) (by omega)

set_option maxHeartbeats 400000 in
theorem count_any (s p : Int) (w : World) (h0 : IntKind.i64.wrap (s * p) = s * p) :
    Calls Try.prog 43 #[.agg #[.int .i64 s, .int .i64 p]] w fun e w' => e = .returned (.int .i64 (s * p)) ∧ Below w.heap.size w w' := by
  go_enter Try.func43, Try.ntmps43
  go_wp2
  go_ret
  exact ⟨rfl, (Below.refl _ _).alloc (Nat.le_refl _) _⟩
end Go.Proofs.Ythmlibapjhmdbaa
