/- The leaf functions of package sha: turning bits, a word of four bytes. -/
import Derived.Test.YtalknjokamfggaaDoorRows
import Derived.Test.YtalknjokamfggaaDoorPure
import Derived.WalkKit
import Derived.WalkSpells
import Derived.WalkLawsBesides
import Derived.BigQuiet
import Derived.Deep.QuietTactic
import Derived.IntWalk
import Derived.Lib.Hide
import Derived.Laws.BitsAllLaws
namespace Go.Proofs.YtalknjokamfggaaDoor
open Go.RowKit

theorem rot_mask (k : Nat) (h1 : 1 ≤ k) (h2 : k < 32) : bits .and .u64 (IntKind.u64.wrap (-(k : Int))) 31 = 32 - (k : Int) := by
  have : ∀ j : Fin 32, 1 ≤ j.val → bits .and .u64 (IntKind.u64.wrap (-(j.val : Int))) 31 = 32 - (j.val : Int) := by decide +kernel
  exact this ⟨k, h2⟩ h1

theorem rot_value (x k : Nat) (hx : x < 4294967296) (hk : k < 32) :
    bits BinOp.or IntKind.u32 ((x : Int) * 2 ^ (32 - k) % 4294967296) ((x : Int) / 2 ^ (32 - (32 - k))) = ((Sh.rotr x k : Nat) : Int) := by
  have e1 : (x : Int) * 2 ^ (32 - k) % 4294967296 = ((x * 2 ^ (32 - k) % 4294967296 : Nat) : Int) := by simp
  have e2 : (x : Int) / 2 ^ (32 - (32 - k)) = ((x / 2 ^ k : Nat) : Int) := by
    rw [show 32 - (32 - k) = k from by omega]; simp
  rw [e1, e2, u32_or_nat _ _ (Nat.mod_lt _ (by decide)) (Nat.lt_of_le_of_lt (Nat.div_le_self _ _) hx)]
  rfl

set_option maxHeartbeats 400000 in
theorem rotl_any (x k : Nat) (w : World) (hx2 : x < 4294967296) (hk : 1 ≤ k) (hk2 : k < 32) :
    Calls Tryd.prog 32 #[.int .u32 x, .int .i64 (-(k : Int))] w fun e w' => e = .returned (.int .u32 (Sh.rotr x k : Nat)) ∧ w = w' := by
  have hm := rot_mask k hk hk2
  have h0 : 0 ≤ 32 - (k : Int) := by omega
  have hv := rot_value x k hx2 hk2
  go_enter Tryd.func32, Tryd.ntmps32
  go_wp2
  go_ret
  exact ⟨rfl, rfl⟩

set_option maxHeartbeats 400000 in
theorem rot_any (x k : Nat) (w : World) (hx2 : x < 4294967296) (hk : 1 ≤ k) (hk2 : k < 32) :
    Calls Tryd.prog 30 #[.int .u32 x, .int .i64 (k : Int)] w fun e w' => e = .returned (.int .u32 (Sh.rotr x k : Nat)) ∧ w = w' := by
  go_enter Tryd.func30, Tryd.ntmps30
  go_wp2_with (go_at_call 32; refine (rotl_any x k _ hx2 hk hk2).mono ?_; rintro e w' ⟨rfl, rfl⟩)
  go_ret
  exact ⟨rfl, rfl⟩

theorem word_value (a b c d : Nat) (ha : a < 256) (hb : b < 256) (hc : c < 256) (hd : d < 256) :
    (bits BinOp.or IntKind.u32 (bits BinOp.or IntKind.u32 (bits BinOp.or IntKind.u32 ((a : Int) % 4294967296 * 16777216 % 4294967296) ((b : Int) % 4294967296 * 65536 % 4294967296))
      ((c : Int) % 4294967296 * 256 % 4294967296)) ((d : Int) % 4294967296)) = (((((a * 16777216) ||| (b * 65536)) ||| (c * 256)) ||| d : Nat) : Int) := by
  have e1 : (a : Int) % 4294967296 * 16777216 % 4294967296 = ((a * 16777216 : Nat) : Int) := by omega
  have e2 : (b : Int) % 4294967296 * 65536 % 4294967296 = ((b * 65536 : Nat) : Int) := by omega
  have e3 : (c : Int) % 4294967296 * 256 % 4294967296 = ((c * 256 : Nat) : Int) := by omega
  have e4 : (d : Int) % 4294967296 = (d : Int) := by omega
  rw [e1, e2, e3, e4, u32_or_nat _ _ (by omega) (by omega), u32_or_nat _ _ (Sh.or_lt (by omega) (by omega)) (by omega),
    u32_or_nat _ _ (Sh.or_lt (Sh.or_lt (by omega) (by omega)) (by omega)) (by omega)]

set_option maxHeartbeats 400000 in
theorem wordAt_any (s : ByteArray) (i : Nat) (w : World) (hi : i + 3 < s.size) (hs : s.size ≤ maxLen) :
    Calls Tryd.prog 31 #[.string s, .int .i64 i] w fun e w' => e = .returned (.int .u32 (Sh.word (Sh.bl s) i : Nat)) ∧ ∃ n, w' = w.drewN n := by
  unfold maxLen at hs
  have HV := Lib.hid (word_value s[i].toNat s[i + 1].toNat s[i + 2].toNat s[i + 3].toNat s[i].toNat_lt s[i + 1].toNat_lt s[i + 2].toNat_lt s[i + 3].toNat_lt)
  have HW : Hid (Sh.word (Sh.bl s) i = ((((s[i].toNat * 16777216) ||| (s[i + 1].toNat * 65536)) ||| (s[i + 2].toNat * 256)) ||| s[i + 3].toNat)) := by
    show _ = _
    unfold Sh.word
    rw [Sh.nth_bl s i (by omega), Sh.nth_bl s (i + 1) (by omega), Sh.nth_bl s (i + 2) (by omega), Sh.nth_bl s (i + 3) (by omega)]
  have h0 : (i : Int) < s.size := by omega
  have h1 : (i : Int) + 1 < s.size := by omega
  have h2 : (i : Int) + 2 < s.size := by omega
  have h3 : (i : Int) + 3 < s.size := by omega
  have a1 : IntKind.i64.wrap ((i : Int) + 1) = (i : Int) + 1 := IntWalk.i64_in _ (by omega)
  have a2 : IntKind.i64.wrap ((i : Int) + 2) = (i : Int) + 2 := IntWalk.i64_in _ (by omega)
  have a3 : IntKind.i64.wrap ((i : Int) + 3) = (i : Int) + 3 := IntWalk.i64_in _ (by omega)
  have b1 : 0 ≤ (i : Int) + 1 := by omega
  have b2 : 0 ≤ (i : Int) + 2 := by omega
  have b3 : 0 ≤ (i : Int) + 3 := by omega
  have c1 : ((i : Int) + 1).toNat = i + 1 := by omega
  have c2 : ((i : Int) + 2).toNat = i + 2 := by omega
  have c3 : ((i : Int) + 3).toNat = i + 3 := by omega
  go_enter Tryd.func31, Tryd.ntmps31
  go_wp2
  go_quiet (fail)
  go_wp2
  go_ret
  refine ⟨?_, nq, rfl⟩
  rw [HW.out]
  exact congrArg (fun x => Ending.returned (Value.int .u32 x)) HV.out

end Go.Proofs.YtalknjokamfggaaDoor
