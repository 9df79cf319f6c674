/- The leaf functions of mask and cores: isCore, within, count. -/
import Derived.Test.YtjolkcomlindhaaRows
import Derived.Test.YtjolkcomlindhaaGB6xMPurexMRow
import Derived.WalkKit
import Derived.WalkSpells
import Derived.WalkLawsBesides
import Derived.BigQuiet
import Derived.Deep.QuietTactic
import Derived.IntWalk
import Derived.Lib.Hide
import Derived.Laws.BitsAllLaws
import Derived.Deep.RegionHeld3
import Derived.Deep.DeepCutAuto
import Derived.StillTailTactics
namespace Go.Proofs.Ytjolkcomlindhaa.Mo
open Go.RowKit

set_option maxHeartbeats 400000 in
theorem isCore_yes (c : Int) (w : World) (h0 : 0 ≤ c) (h1 : c < 256) :
    Calls Try.prog 76 #[.int .i64 c] w fun e w' => e = .returned (.bool true) ∧ w = w' := by
  go_enter Try.func76, Try.ntmps76
  go_wp2
  go_ret
  exact ⟨rfl, rfl⟩

set_option maxHeartbeats 400000 in
theorem isCore_low (c : Int) (w : World) (h0 : c < 0) :
    Calls Try.prog 76 #[.int .i64 c] w fun e w' => e = .returned (.bool false) ∧ w = w' := by
  have hd : decide (0 ≤ c) = false := by simp; omega
  go_enter Try.func76, Try.ntmps76
  go_wp2
  go_ret
  exact ⟨rfl, rfl⟩

set_option maxHeartbeats 400000 in
theorem isCore_high (c : Int) (w : World) (h0 : 256 ≤ c) :
    Calls Try.prog 76 #[.int .i64 c] w fun e w' => e = .returned (.bool false) ∧ w = w' := by
  have h1 : 0 ≤ c := by omega
  have hd : decide (c < 256) = false := by simp; omega
  go_enter Try.func76, Try.ntmps76
  go_wp2
  go_ret
  exact ⟨rfl, rfl⟩
theorem isCore_no (c : Int) (w : World) (h : c < 0 ∨ 256 ≤ c) :
    Calls Try.prog 76 #[.int .i64 c] w fun e w' => e = .returned (.bool false) ∧ w = w' := by
  rcases h with h | h
  · exact isCore_low c w h
  · exact isCore_high c w h

end Go.Proofs.Ytjolkcomlindhaa.Mo
/- with, Has. -/
namespace Go.Proofs.Ytjolkcomlindhaa.Mo
open Go.RowKit

theorem info33 : (Try.prog.info? 104).map (·.size) = some 4 := by kernel_rfl
theorem zeros4 : #[Value.int IntKind.u64 0, Value.int IntKind.u64 0, Value.int IntKind.u64 0, Value.int IntKind.u64 0] = vs .u64 Mk.zero := rfl
theorem size_alloc (w : World) (o : Obj) : (w.alloc o).heap.size = w.heap.size + 1 := by simp

theorem test_bit (x k : Nat) (hx : x < 2 ^ 64) (_hk : k < 64) : (bits BinOp.and IntKind.u64 ((x : Int) / 2 ^ k) 1 == 1) = x.testBit k := by
  have e : (x : Int) / 2 ^ k = ((x / 2 ^ k : Nat) : Int) := by simp
  have hlt : x / 2 ^ k < 18446744073709551616 := Nat.lt_of_le_of_lt (Nat.div_le_self _ _) hx
  rw [e, show (1 : Int) = ((1 : Nat) : Int) from rfl, u64_and_nat _ _ hlt (by decide), Nat.and_one_is_mod, Nat.testBit_eq_decide_div_mod_eq]
  generalize x / 2 ^ k % 2 = y
  rw [Bool.eq_iff_iff]
  simp
  omega

theorem or_bit (x k : Nat) (hx : x < 2 ^ 64) (hk : k < 64) : bits BinOp.or IntKind.u64 (x : Int) (IntKind.u64.wrap (2 ^ k)) = ((x ||| 2 ^ k : Nat) : Int) := by
  have hp : 2 ^ k < 18446744073709551616 := Nat.pow_lt_pow_right (a := 2) (m := k) (n := 64) (by decide) hk
  have e : IntKind.u64.wrap (2 ^ k) = ((2 ^ k : Nat) : Int) := by
    have : (2 : Int) ^ k = ((2 ^ k : Nat) : Int) := by simp
    rw [IntKind.wrap_u64, this]
    generalize 2 ^ k = y at hp
    omega
  rw [e, u64_or_nat _ _ hx hp]

set_option maxRecDepth 100000 in
set_option maxHeartbeats 400000 in
theorem has_in (l : List Nat) (c : Nat) (w : World) (hl : Mk.W4 l) (hc : c < 256) :
    Calls Try.prog 77 #[.agg (vs .u64 l), .int .i64 c] w fun e w' => e = .returned (.bool (Mk.hasB l c)) ∧ Below w.heap.size w w' := by
  have HL := Lib.hid hl
  clear hl
  have r0 := Row.new w .u64 104 l _ rfl
  have hc0 := r0.cell (c / 64) (by rw [HL.out.1]; omega)
  go_enter Try.func77, Try.ntmps77
  go_wp2_with (go_at_call 76; refine (isCore_yes _ _ (by omega) (by omega)).mono ?_; rintro e w' ⟨rfl, rfl⟩)
  go_ret
  refine ⟨?_, (Below.refl _ _).alloc (Nat.le_refl _) _⟩
  rw [Mk.hasB]
  exact congrArg (fun b => Ending.returned (Value.bool b)) (test_bit _ _ (HL.out.2 _) (by omega))

set_option maxRecDepth 100000 in
set_option maxHeartbeats 400000 in
theorem with_any (l : List Nat) (c : Nat) (w : World) (hl : Mk.W4 l) (hc : c < 256) :
    Calls Try.prog 78 #[.agg (vs .u64 l), .int .i64 c] w fun e w' => e = .returned (.agg (vs .u64 (Mk.wth l c))) ∧ Below w.heap.size w w' := by
  have HL := Lib.hid hl
  clear hl
  have b1 : (0 : Int) ≤ (c : Int) / 64 := by omega
  have b2 : (c : Int) / 64 < 4 := by omega
  have b3 : (0 : Int) ≤ (c : Int) % 64 := by omega
  have b4 : (c : Int) % 64 < 64 := by omega
  have c1 : ((c : Int) / 64).toNat = c / 64 := by omega
  have c2 : ((c : Int) % 64).toNat = c % 64 := by omega
  have a1 : IntKind.i64.wrap ((c : Int) / 64) = (c : Int) / 64 := IntWalk.i64_in _ (by omega)
  have a2 : (c : Int).tmod 64 = (c : Int) % 64 := Int.tmod_eq_emod_of_nonneg (by omega)
  go_enter Try.func78, Try.ntmps78
  go_wp2_with fail
  refine region_tail 9 (by kernel_rfl) (by kernel_rfl) (fun w2 hw2 => ?_)
  have r0 := ((Row.new w .u64 104 l _ rfl).alloc (.cells (vs .u64 Mk.zero) 104)).hid hw2
  have r1 : Row .u64 104 w2 (w.heap.size + 1) Mk.zero := by
    have := Row.new (w.alloc (.cells (vs .u64 l) 104)) .u64 104 Mk.zero _ rfl
    rw [size_alloc] at this
    exact this.hid hw2
  have hb : Below w.heap.size w w2 := below_hid (((Below.refl _ _).alloc (Nat.le_refl _) _).alloc (by simp) _) hw2
  clear hw2
  have hc0 := r0.cell (c / 64) (by rw [HL.out.1]; omega)
  have hf := r0.frozen (c / 64)
  simp only [List.take_succ_cons, List.take_zero, List.drop_succ_cons, List.drop_zero]
  have e0 := or_bit (Mk.nth l (c / 64)) (c % 64) (HL.out.2 _) (by omega)
  repeat still_step
  refine wpStill_nil ?_
  clear e0
  have r2 : Row .u64 104 (w2.setCell ⟨w.heap.size, c / 64, none⟩ (.int .u64 ((Mk.nth l (c / 64) ||| 2 ^ (c % 64) : Nat) : Int))) w.heap.size (Mk.wth l c) := r0.set (c / 64) _
  have r3 := r1.setOther (a := ⟨w.heap.size, c / 64, none⟩) (.int .u64 ((Mk.nth l (c / 64) ||| 2 ^ (c % 64) : Nat) : Int)) (by simp)
  have hb3 := hb.setCell (p := ⟨w.heap.size, c / 64, none⟩) (Nat.le_refl _) (.int .u64 ((Mk.nth l (c / 64) ||| 2 ^ (c % 64) : Nat) : Int))
  have hz := Lib.hid (show (Try.prog.info? 104).map (·.size) = some (Mk.wth l c).length by rw [(HL.out.wth hc).1]; exact info33)
  have hlen := Lib.hid (show Mk.zero.length = (Mk.wth l c).length by rw [(HL.out.wth hc).1]; rfl)
  go_wp2_with (first | (refine load_law rfl 104 _ rfl w.heap.size .u64 (Mk.wth l c) rfl 104 _ r2 Try.underlying104 rfl hz.out ?_) | (refine store_law rfl 104 _ _ rfl (w.heap.size + 1) .u64 Mk.zero (Mk.wth l c) rfl rfl 104 r3 hlen.out hz.out ?_; intro w7 hw7))
  exact bodyPost_ret (results_row rfl _ _ (w.heap.size + 1) .u64 104 _ _ rfl (r3.hidSet hw7) Try.underlying104 rfl hz.out) rfl ⟨rfl, below_hidSet hb3 hw7 (by omega)⟩
end Go.Proofs.Ytjolkcomlindhaa.Mo
/- span, All of mask. -/
namespace Go.Proofs.Ytjolkcomlindhaa.Mo
open Go.RowKit

theorem bmore {a b c : World} (h : Below a.heap.size a b) (k : Below b.heap.size b c) : Below a.heap.size a c := h.trans (k.mono h.size)

theorem zero_len {l : List Nat} (h : Mk.W4 l) : Mk.zero.length = l.length := by rw [h.1]; rfl
theorem len_zero {l : List Nat} (h : Mk.W4 l) : l.length = Mk.zero.length := by rw [h.1]; rfl
theorem len_len {l m : List Nat} (h : Mk.W4 l) (k : Mk.W4 m) : l.length = m.length := by rw [h.1, k.1]
theorem info33' {l : List Nat} (h : Mk.W4 l) : (Try.prog.info? 104).map (·.size) = some l.length := by rw [h.1]; exact info33

end Go.Proofs.Ytjolkcomlindhaa.Mo
