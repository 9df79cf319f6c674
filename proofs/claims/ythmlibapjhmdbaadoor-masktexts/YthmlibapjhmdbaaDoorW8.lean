/- How many cores a mask has. -/
import Derived.Test.YthmlibapjhmdbaaDoorW7
namespace Go.Proofs.YthmlibapjhmdbaaDoor
open Go.RowKit Go.Shelf

def cntK (m : List Nat) : Nat → Nat
  | 0 => 0
  | k + 1 => cntK m k + Mk.pcr 64 (Mk.nth m k)
theorem cntK_le (m : List Nat) : ∀ k, cntK m k ≤ 64 * k
  | 0 => by simp [cntK]
  | k + 1 => by
    have := cntK_le m k
    have h2 := Mk.pcr_le 64 (Mk.nth m k)
    rw [cntK]
    generalize Mk.pcr 64 (Mk.nth m k) = z at *
    omega
theorem cntK_four (m : List Nat) : cntK m 4 = Mk.cnt m := by
  unfold cntK cntK cntK cntK cntK Mk.cnt
  rw [Nat.zero_add]
theorem cnt_le (m : List Nat) : Mk.cnt m ≤ 256 := by rw [← cntK_four]; exact cntK_le m 4

set_option maxRecDepth 100000 in
set_option maxHeartbeats 400000 in
theorem mcount_any (m : List Nat) (w : World) (hm : Mk.W4 m) :
    Calls Tryd.prog 18 #[.agg (vs .u64 m)] w fun e w' => e = .returned (.int .i64 (Mk.cnt m : Nat)) ∧ Below w.heap.size w w' := by
  have HM := Lib.hid hm
  clear hm
  have hzb := Lib.hid (info33' HM.out)
  have q0 := Row.new w .u64 27 m _ rfl
  have hb0 := (Below.refl _ w).alloc (Nat.le_refl _) (.cells (vs .u64 m) 27)
  go_enter Tryd.func18, Tryd.ntmps18
  go_wp2_with (refine load_w rfl 27 _ rfl w.heap.size .u64 m rfl 27 _ q0 Tryd.underlying27 rfl hzb.out ?_)
  generalize w.alloc (.cells (vs .u64 m) 27) = W1 at *
  go_loopw [3, 7] (fun n i wr => ∃ k : Nat, k ≤ 4 ∧ n = .int .i64 (cntK m k : Nat) ∧ i = .int .i64 k ∧ Below w.heap.size w wr)
    (fun _ i _ => 4 - (intOf i).toNat)
  case atStart => exact ⟨0, by omega, rfl, rfl, hb0⟩
  case round =>
    clear q0 hb0
    obtain ⟨k, hk, rfl, rfl, hb0⟩ := hrel
    by_cases hlt : k < 4
    · have vi := fun W => run_index33 HM.out.1 hlt W
      have b0 := cntK_le m k
      have b1 := Mk.pcr_le 64 (Mk.nth m k)
      have HC := Lib.hid (show cntK m (k + 1) = cntK m k + Mk.pcr 64 (Mk.nth m k) from rfl)
      have HX := Lib.hid (HM.out.2 k)
      have i0 : (0 : Int) ≤ (k : Int) := by omega
      have i1 : (k : Int) < 4 := by omega
      generalize cntK m k = N at *
      generalize Mk.nth m k = X at *
      generalize hp : Mk.pcr 64 X = P at *
      go_wp2_with fail
      refine (ones_any _ _ HX.out).mono ?_
      rintro e w2 ⟨rfl, rfl⟩
      rw [hp]
      go_wp2_with fail
      go_roundw
      case rel => exact ⟨k + 1, by omega, by rw [HC.out]; go_num, by go_num, hb0⟩
      case measure => simp [intOf]; omega
    · obtain rfl : k = 4 := by omega
      rw [cntK_four]
      go_wp2_with fail
      go_ret
      exact ⟨rfl, hb0⟩
end Go.Proofs.YthmlibapjhmdbaaDoor
