/- The leaf functions of mask and cores: isCore, within, count. -/
import Derived.Test.YtjolkcomlindhaaRows
import Derived.Test.YtjolkcomlindhaaMRow
import Derived.WalkKit
import Derived.WalkSpells
import Derived.WalkLawsBesides
import Derived.BigQuiet
import Derived.Deep.QuietTactic
import Derived.IntWalk
import Derived.Lib.Hide
import Derived.Laws.BitsAllLaws
import Derived.Deep.RegionHeld3
import Derived.Deep.DeepCutAuto
import Derived.StillTailTactics
namespace Go.Proofs.Ytjolkcomlindhaa.Mo
open Go.RowKit

set_option maxHeartbeats 400000 in
theorem isCore_yes (c : Int) (w : World) (h0 : 0 ≤ c) (h1 : c < 256) :
    Calls Try.prog 76 #[.int .i64 c] w fun e w' => e = .returned (.bool true) ∧ w = w' := by
  go_enter Try.func76, Try.ntmps76
  go_wp2
  go_ret
  exact ⟨rfl, rfl⟩

set_option maxHeartbeats 400000 in
theorem isCore_low (c : Int) (w : World) (h0 : c < 0) :
    Calls Try.prog 76 #[.int .i64 c] w fun e w' => e = .returned (.bool false) ∧ w = w' := by
  have hd : decide (0 ≤ c) = false := by simp; omega
  go_enter Try.func76, Try.ntmps76
  go_wp2
  go_ret
  exact ⟨rfl, rfl⟩

set_option maxHeartbeats 400000 in
theorem isCore_high (c : Int) (w : World) (h0 : 256 ≤ c) :
    Calls Try.prog 76 #[.int .i64 c] w fun e w' => e = .returned (.bool false) ∧ w = w' := by
  have h1 : 0 ≤ c := by omega
  have hd : decide (c < 256) = false := by simp; omega
  go_enter Try.func76, Try.ntmps76
  go_wp2
  go_ret
  exact ⟨rfl, rfl⟩
theorem isCore_no (c : Int) (w : World) (h : c < 0 ∨ 256 ≤ c) :
    Calls Try.prog 76 #[.int .i64 c] w fun e w' => e = .returned (.bool false) ∧ w = w' := by
  rcases h with h | h
  · exact isCore_low c w h
  · exact isCore_high c w h

end Go.Proofs.Ytjolkcomlindhaa.Mo
