/- Same: whether two texts are the same bytes. -/
import Derived.Test.YtalknjokamfggaaDoorW1
namespace Go.Proofs.YtalknjokamfggaaDoor
open Go.RowKit

/-- What Same gathers of the first n bytes. -/
def diff (a b : ByteArray) : Nat → Nat
  | 0 => 0
  | n + 1 => diff a b n ||| (Sh.nth (Sh.bl a) n ^^^ Sh.nth (Sh.bl b) n)

theorem diff_lt (a b : ByteArray) : ∀ n, diff a b n < 256
  | 0 => Nat.zero_lt_succ 255
  | n + 1 => Nat.or_lt_two_pow (n := 8) (diff_lt a b n) (Nat.xor_lt_two_pow (n := 8) (Sh.bl_bytes a n) (Sh.bl_bytes b n))

theorem same_bits (d x y : Nat) (hd : d < 256) (hx : x < 256) (hy : y < 256) : bits .or .u8 (d : Int) (bits .xor .u8 (x : Int) (y : Int)) = ((d ||| (x ^^^ y) : Nat) : Int) := by
  rw [u8_xor_nat x y hx hy, u8_or_nat d _ hd (Nat.xor_lt_two_pow (n := 8) hx hy)]

set_option maxHeartbeats 400000 in
theorem same_no (a b : ByteArray) (w : World) (h : a.size ≠ b.size) :
    Calls Tryd.prog 15 #[.string a, .string b] w fun e w' => e = .returned (.bool false) ∧ w = w' := by
  have h1 : ((a.size : Int) != (b.size : Int)) = true := by rw [bne_iff_ne]; omega
  go_enter Tryd.func15, Tryd.ntmps15
  go_wp2
  go_ret
  exact ⟨rfl, rfl⟩

set_option maxHeartbeats 400000 in
theorem same_yes (a b : ByteArray) (w : World) (h : a.size = b.size) (hs : a.size ≤ maxLen) :
    Calls Tryd.prog 15 #[.string a, .string b] w fun e w' => e = .returned (.bool (decide (diff a b a.size = 0))) ∧ ∃ n, w' = w.drewN n := by
  unfold maxLen at hs
  have h1 : ((a.size : Int) != (b.size : Int)) = false := by simp [h]
  have HE := Lib.hid h
  clear h
  go_enter Tryd.func15, Tryd.ntmps15
  go_wp2_with fail
  go_loopw [5, 14] (fun d i wr => ∃ k : Nat, k ≤ a.size ∧ i = .int .i64 k ∧ d = .int .u8 (diff a b k : Nat) ∧ ∃ n, wr = w.drewN n) (fun _ i _ => a.size - (intOf i).toNat)
  case atStart => exact ⟨0, by omega, rfl, rfl, 0, rfl⟩
  case round =>
    obtain ⟨k, hk, rfl, rfl, n, rfl⟩ := hrel
    by_cases hlt : k < a.size
    · have hltb : k < b.size := by rw [← HE.out]; exact hlt
      have e1 := same_bits (diff a b k) a[k].toNat b[k].toNat (diff_lt a b k) a[k].toNat_lt b[k].toNat_lt
      have HD : Hid (diff a b (k + 1) = (diff a b k ||| (a[k].toNat ^^^ b[k].toNat))) := by
        show _ = _
        rw [diff, Sh.nth_bl a k hlt, Sh.nth_bl b k hltb]
      have d1 : (k : Int) < a.size := by omega
      have d2 : (k : Int) < b.size := by omega
      go_wp2_with fail
      go_quiet (fail)
      go_wp2
      go_roundw
      case rel => exact ⟨k + 1, by omega, by go_num, by rw [HD.out], n + nq, by simp [World.drewN]⟩
      case measure => simp [intOf]; omega
    · obtain rfl : k = a.size := by omega
      go_wp2
      go_ret
      refine ⟨?_, n, rfl⟩
      have : (((diff a b a.size : Nat) : Int) == 0) = decide (diff a b a.size = 0) := by rw [Bool.eq_iff_iff]; simp
      rw [← this]
      rfl

end Go.Proofs.YtalknjokamfggaaDoor
