/- And, Or, Minus of masks. -/
import Derived.Test.YthmlibapjhmdbaaW13
namespace Go.Proofs.Ythmlibapjhmdbaa
open Go.RowKit Go.Shelf

def andN (a b : Nat) : Nat := a &&& (18446744073709551615 - b)
/-- Word by word, the first k. -/
def upK (g : Nat → Nat → Nat) (a b : List Nat) (k : Nat) : List Nat := (List.zipWith g a b).take k ++ a.drop k
def zw (g : Nat → Nat → Nat) (a b : List Nat) : List Nat := List.zipWith g a b
theorem zw_len {g : Nat → Nat → Nat} {a b : List Nat} (ha : a.length = 4) (hb : b.length = 4) : (zw g a b).length = 4 := by simp [zw, ha, hb]
theorem upK_len {g : Nat → Nat → Nat} {a b : List Nat} (ha : a.length = 4) (hb : b.length = 4) (k : Nat) (hk : k ≤ 4) : (upK g a b k).length = 4 := by simp [upK, ha, hb]; omega
theorem upK_nth {g : Nat → Nat → Nat} {a b : List Nat} (ha : a.length = 4) (hb : b.length = 4) {k : Nat} (hk : k < 4) : Mk.nth (upK g a b k) k = Mk.nth a k := by
  match a, ha, b, hb with
  | [_, _, _, _], _, [_, _, _, _], _ =>
    match k, hk with
    | 0, _ | 1, _ | 2, _ | 3, _ => rfl
theorem upK_set {g : Nat → Nat → Nat} {a b : List Nat} (ha : a.length = 4) (hb : b.length = 4) {k : Nat} (hk : k < 4) : (upK g a b k).set k (g (Mk.nth a k) (Mk.nth b k)) = upK g a b (k + 1) := by
  match a, ha, b, hb with
  | [_, _, _, _], _, [_, _, _, _], _ =>
    match k, hk with
    | 0, _ | 1, _ | 2, _ | 3, _ => rfl
theorem upK_done {g : Nat → Nat → Nat} {a b : List Nat} (ha : a.length = 4) (hb : b.length = 4) : upK g a b 4 = zw g a b := by
  match a, ha, b, hb with
  | [_, _, _, _], _, [_, _, _, _], _ => rfl
theorem zw_nth {g : Nat → Nat → Nat} {a b : List Nat} (ha : a.length = 4) (hb : b.length = 4) {k : Nat} (hk : k < 4) : Mk.nth (zw g a b) k = g (Mk.nth a k) (Mk.nth b k) := by
  match a, ha, b, hb with
  | [_, _, _, _], _, [_, _, _, _], _ =>
    match k, hk with
    | 0, _ | 1, _ | 2, _ | 3, _ => rfl
theorem vs_index {l : List Nat} (h : l.length = 4) {k : Nat} (hk : k < 4) : (vs .u64 l)[k]? = some (.int .u64 (Mk.nth l k : Nat)) := vs_get .u64 l k (by omega)
theorem run_index33 {l : List Nat} (h : l.length = 4) {k : Nat} (hk : k < 4) (w : World) : (Instr.index 40 (.agg (vs .u64 l)) (.int .i64 (k : Int))).run Try.prog w = .ok (.int .u64 (Mk.nth l k : Nat)) w := by
  have u3 := Try.underlying33
  have a3 := Try.isAgg33
  have z3 := Try.sizeOf33
  have hv := vs_index h hk
  have h2 : (k : Int) < 4 := by omega
  unfold Instr.index
  simp only [Sem.run_bind, run_underlying Try.underlying40, Result.andThen_ok]
  simp [go_sem, hv, part, a3, z3]
  intro h3
  omega

set_option maxRecDepth 100000 in
set_option maxHeartbeats 400000 in
theorem and_any (a b : List Nat) (w : World) (ha : Mk.W4 a) (hb0 : Mk.W4 b) :
    Calls Try.prog 21 #[.agg (vs .u64 a), .agg (vs .u64 b)] w fun e w' => e = .returned (.agg (vs .u64 (zw Nat.land a b))) ∧ Below w.heap.size w w' := by
  have HA := Lib.hid ha
  have HB := Lib.hid hb0
  clear ha hb0
  have hzb := Lib.hid (info33' HB.out)
  have q0 := ((Row.new w .u64 40 a _ rfl).alloc (.cells (vs .u64 b) 40)).alloc (.cells (vs .u64 Mk.zero) 40)
  have q1 : Row .u64 40 (((w.alloc (.cells (vs .u64 a) 40)).alloc (.cells (vs .u64 b) 40)).alloc (.cells (vs .u64 Mk.zero) 40)) (w.heap.size + 1) b := by
    have := (Row.new (w.alloc (.cells (vs .u64 a) 40)) .u64 40 b _ rfl).alloc (.cells (vs .u64 Mk.zero) 40)
    rw [size_alloc] at this
    exact this
  have q2 : Row .u64 40 (((w.alloc (.cells (vs .u64 a) 40)).alloc (.cells (vs .u64 b) 40)).alloc (.cells (vs .u64 Mk.zero) 40)) (w.heap.size + 1 + 1) Mk.zero := by
    have := Row.new ((w.alloc (.cells (vs .u64 a) 40)).alloc (.cells (vs .u64 b) 40)) .u64 40 Mk.zero _ rfl
    rw [size_alloc, size_alloc] at this
    exact this
  have hb0 := (((Below.refl _ w).alloc (Nat.le_refl _) (.cells (vs .u64 a) 40)).alloc (by simp) (.cells (vs .u64 b) 40)).alloc (by simp; omega) (.cells (vs .u64 Mk.zero) 40)
  go_enter Try.func21, Try.ntmps21
  go_wp2_with (refine load_w rfl 40 _ rfl (w.heap.size + 1) .u64 b rfl 40 _ q1 Try.underlying40 rfl hzb.out ?_)
  go_loopw [8] (fun i wr => ∃ k : Nat, k ≤ 4 ∧ i = .int .i64 k ∧ Row .u64 40 wr w.heap.size (upK Nat.land a b k) ∧ Row .u64 40 wr (w.heap.size + 1 + 1) Mk.zero ∧ Below w.heap.size w wr)
    (fun i _ => 4 - (intOf i).toNat)
  case atStart => exact ⟨0, by omega, rfl, q0, q2, hb0⟩
  case round =>
    clear q0 q1 q2 hb0
    obtain ⟨k, hk, rfl, q0, q2, hb0⟩ := hrel
    by_cases hlt : k < 4
    · have HL := Lib.hid (upK_len (g := Nat.land) HA.out.1 HB.out.1 k hk)
      have c0 := q0.cell k (by rw [HL.out]; exact hlt)
      rw [upK_nth HA.out.1 HB.out.1 hlt] at c0
      have f0 := q0.frozen k
      have i0 : (0 : Int) ≤ (k : Int) := by omega
      have i1 : (k : Int) < 4 := by omega
      have e0 : bits BinOp.and IntKind.u64 (Mk.nth a k : Nat) (Mk.nth b k : Nat) = ((Nat.land (Mk.nth a k) (Mk.nth b k) : Nat) : Int) := u64_and_nat _ _ (HA.out.2 k) (HB.out.2 k)
      have HS := Lib.hid (upK_set (g := Nat.land) HA.out.1 HB.out.1 hlt)
      have vi := fun W => run_index33 HB.out.1 hlt W
      go_wp2_with fail
      go_roundw
      case rel =>
        refine ⟨k + 1, by omega, by go_num, ?_, q2.setOther _ (by simp; omega), hb0.setCell (by simp) _⟩
        have h9 := q0.set k (Nat.land (Mk.nth a k) (Mk.nth b k))
        rw [HS.out] at h9
        exact h9
      case measure => simp [intOf]; omega
    · obtain rfl : k = 4 := by omega
      rw [upK_done HA.out.1 HB.out.1] at q0
      have hz := Lib.hid (show (Try.prog.info? 40).map (·.size) = some (zw Nat.land a b).length by rw [zw_len HA.out.1 HB.out.1]; exact info33)
      have hlen := Lib.hid (show Mk.zero.length = (zw Nat.land a b).length by rw [zw_len HA.out.1 HB.out.1]; rfl)
      go_wp2_with (first | (refine load_w rfl 40 _ rfl w.heap.size .u64 (zw Nat.land a b) rfl 40 _ q0 Try.underlying40 rfl hz.out ?_) | (refine store_law rfl 40 _ _ rfl (w.heap.size + 1 + 1) .u64 Mk.zero (zw Nat.land a b) rfl rfl 40 q2 hlen.out hz.out ?_; intro w7 hw7))
      exact bodyPost_ret (results_row rfl _ _ (w.heap.size + 1 + 1) .u64 40 _ _ rfl (q2.hidSet hw7) Try.underlying40 rfl hz.out) rfl ⟨rfl, below_hidSet hb0 hw7 (by omega)⟩

set_option maxRecDepth 100000 in
set_option maxHeartbeats 400000 in
theorem minus_any (a b : List Nat) (w : World) (ha : Mk.W4 a) (hb0 : Mk.W4 b) :
    Calls Try.prog 24 #[.agg (vs .u64 a), .agg (vs .u64 b)] w fun e w' => e = .returned (.agg (vs .u64 (zw andN a b))) ∧ Below w.heap.size w w' := by
  have HA := Lib.hid ha
  have HB := Lib.hid hb0
  clear ha hb0
  have hzb := Lib.hid (info33' HB.out)
  have q0 := ((Row.new w .u64 40 a _ rfl).alloc (.cells (vs .u64 b) 40)).alloc (.cells (vs .u64 Mk.zero) 40)
  have q1 : Row .u64 40 (((w.alloc (.cells (vs .u64 a) 40)).alloc (.cells (vs .u64 b) 40)).alloc (.cells (vs .u64 Mk.zero) 40)) (w.heap.size + 1) b := by
    have := (Row.new (w.alloc (.cells (vs .u64 a) 40)) .u64 40 b _ rfl).alloc (.cells (vs .u64 Mk.zero) 40)
    rw [size_alloc] at this
    exact this
  have q2 : Row .u64 40 (((w.alloc (.cells (vs .u64 a) 40)).alloc (.cells (vs .u64 b) 40)).alloc (.cells (vs .u64 Mk.zero) 40)) (w.heap.size + 1 + 1) Mk.zero := by
    have := Row.new ((w.alloc (.cells (vs .u64 a) 40)).alloc (.cells (vs .u64 b) 40)) .u64 40 Mk.zero _ rfl
    rw [size_alloc, size_alloc] at this
    exact this
  have hb0 := (((Below.refl _ w).alloc (Nat.le_refl _) (.cells (vs .u64 a) 40)).alloc (by simp) (.cells (vs .u64 b) 40)).alloc (by simp; omega) (.cells (vs .u64 Mk.zero) 40)
  go_enter Try.func24, Try.ntmps24
  go_wp2_with (refine load_w rfl 40 _ rfl (w.heap.size + 1) .u64 b rfl 40 _ q1 Try.underlying40 rfl hzb.out ?_)
  go_loopw [8] (fun i wr => ∃ k : Nat, k ≤ 4 ∧ i = .int .i64 k ∧ Row .u64 40 wr w.heap.size (upK andN a b k) ∧ Row .u64 40 wr (w.heap.size + 1 + 1) Mk.zero ∧ Below w.heap.size w wr)
    (fun i _ => 4 - (intOf i).toNat)
  case atStart => exact ⟨0, by omega, rfl, q0, q2, hb0⟩
  case round =>
    clear q0 q1 q2 hb0
    obtain ⟨k, hk, rfl, q0, q2, hb0⟩ := hrel
    by_cases hlt : k < 4
    · have HL := Lib.hid (upK_len (g := andN) HA.out.1 HB.out.1 k hk)
      have c0 := q0.cell k (by rw [HL.out]; exact hlt)
      rw [upK_nth HA.out.1 HB.out.1 hlt] at c0
      have f0 := q0.frozen k
      have i0 : (0 : Int) ≤ (k : Int) := by omega
      have i1 : (k : Int) < 4 := by omega
      have e0 : bits BinOp.andNot IntKind.u64 (Mk.nth a k : Nat) (Mk.nth b k : Nat) = ((andN (Mk.nth a k) (Mk.nth b k) : Nat) : Int) := u64_andNot_nat _ _ (HA.out.2 k) (HB.out.2 k)
      have HS := Lib.hid (upK_set (g := andN) HA.out.1 HB.out.1 hlt)
      have vi := fun W => run_index33 HB.out.1 hlt W
      go_wp2_with fail
      go_roundw
      case rel =>
        refine ⟨k + 1, by omega, by go_num, ?_, q2.setOther _ (by simp; omega), hb0.setCell (by simp) _⟩
        have h9 := q0.set k (andN (Mk.nth a k) (Mk.nth b k))
        rw [HS.out] at h9
        exact h9
      case measure => simp [intOf]; omega
    · obtain rfl : k = 4 := by omega
      rw [upK_done HA.out.1 HB.out.1] at q0
      have hz := Lib.hid (show (Try.prog.info? 40).map (·.size) = some (zw andN a b).length by rw [zw_len HA.out.1 HB.out.1]; exact info33)
      have hlen := Lib.hid (show Mk.zero.length = (zw andN a b).length by rw [zw_len HA.out.1 HB.out.1]; rfl)
      go_wp2_with (first | (refine load_w rfl 40 _ rfl w.heap.size .u64 (zw andN a b) rfl 40 _ q0 Try.underlying40 rfl hz.out ?_) | (refine store_law rfl 40 _ _ rfl (w.heap.size + 1 + 1) .u64 Mk.zero (zw andN a b) rfl rfl 40 q2 hlen.out hz.out ?_; intro w7 hw7))
      exact bodyPost_ret (results_row rfl _ _ (w.heap.size + 1 + 1) .u64 40 _ _ rfl (q2.hidSet hw7) Try.underlying40 rfl hz.out) rfl ⟨rfl, below_hidSet hb0 hw7 (by omega)⟩

set_option maxRecDepth 100000 in
set_option maxHeartbeats 400000 in
theorem or_any (a b : List Nat) (w : World) (ha : Mk.W4 a) (hb0 : Mk.W4 b) :
    Calls Try.prog 22 #[.agg (vs .u64 a), .agg (vs .u64 b)] w fun e w' => e = .returned (.agg (vs .u64 (zw Nat.lor a b))) ∧ Below w.heap.size w w' := by
  have HA := Lib.hid ha
  have HB := Lib.hid hb0
  clear ha hb0
  have hzb := Lib.hid (info33' HB.out)
  have q0 := ((Row.new w .u64 40 a _ rfl).alloc (.cells (vs .u64 b) 40)).alloc (.cells (vs .u64 Mk.zero) 40)
  have q1 : Row .u64 40 (((w.alloc (.cells (vs .u64 a) 40)).alloc (.cells (vs .u64 b) 40)).alloc (.cells (vs .u64 Mk.zero) 40)) (w.heap.size + 1) b := by
    have := (Row.new (w.alloc (.cells (vs .u64 a) 40)) .u64 40 b _ rfl).alloc (.cells (vs .u64 Mk.zero) 40)
    rw [size_alloc] at this
    exact this
  have q2 : Row .u64 40 (((w.alloc (.cells (vs .u64 a) 40)).alloc (.cells (vs .u64 b) 40)).alloc (.cells (vs .u64 Mk.zero) 40)) (w.heap.size + 1 + 1) Mk.zero := by
    have := Row.new ((w.alloc (.cells (vs .u64 a) 40)).alloc (.cells (vs .u64 b) 40)) .u64 40 Mk.zero _ rfl
    rw [size_alloc, size_alloc] at this
    exact this
  have hb0 := (((Below.refl _ w).alloc (Nat.le_refl _) (.cells (vs .u64 a) 40)).alloc (by simp) (.cells (vs .u64 b) 40)).alloc (by simp; omega) (.cells (vs .u64 Mk.zero) 40)
  go_enter Try.func22, Try.ntmps22
  go_wp2_with (refine load_w rfl 40 _ rfl (w.heap.size + 1) .u64 b rfl 40 _ q1 Try.underlying40 rfl hzb.out ?_)
  go_loopw [8] (fun i wr => ∃ k : Nat, k ≤ 4 ∧ i = .int .i64 k ∧ Row .u64 40 wr w.heap.size (upK Nat.lor a b k) ∧ Row .u64 40 wr (w.heap.size + 1 + 1) Mk.zero ∧ Below w.heap.size w wr)
    (fun i _ => 4 - (intOf i).toNat)
  case atStart => exact ⟨0, by omega, rfl, q0, q2, hb0⟩
  case round =>
    clear q0 q1 q2 hb0
    obtain ⟨k, hk, rfl, q0, q2, hb0⟩ := hrel
    by_cases hlt : k < 4
    · have HL := Lib.hid (upK_len (g := Nat.lor) HA.out.1 HB.out.1 k hk)
      have c0 := q0.cell k (by rw [HL.out]; exact hlt)
      rw [upK_nth HA.out.1 HB.out.1 hlt] at c0
      have f0 := q0.frozen k
      have i0 : (0 : Int) ≤ (k : Int) := by omega
      have i1 : (k : Int) < 4 := by omega
      have e0 : bits BinOp.or IntKind.u64 (Mk.nth a k : Nat) (Mk.nth b k : Nat) = ((Nat.lor (Mk.nth a k) (Mk.nth b k) : Nat) : Int) := u64_or_nat _ _ (HA.out.2 k) (HB.out.2 k)
      have HS := Lib.hid (upK_set (g := Nat.lor) HA.out.1 HB.out.1 hlt)
      have vi := fun W => run_index33 HB.out.1 hlt W
      go_wp2_with fail
      go_roundw
      case rel =>
        refine ⟨k + 1, by omega, by go_num, ?_, q2.setOther _ (by simp; omega), hb0.setCell (by simp) _⟩
        have h9 := q0.set k (Nat.lor (Mk.nth a k) (Mk.nth b k))
        rw [HS.out] at h9
        exact h9
      case measure => simp [intOf]; omega
    · obtain rfl : k = 4 := by omega
      rw [upK_done HA.out.1 HB.out.1] at q0
      have hz := Lib.hid (show (Try.prog.info? 40).map (·.size) = some (zw Nat.lor a b).length by rw [zw_len HA.out.1 HB.out.1]; exact info33)
      have hlen := Lib.hid (show Mk.zero.length = (zw Nat.lor a b).length by rw [zw_len HA.out.1 HB.out.1]; rfl)
      go_wp2_with (first | (refine load_w rfl 40 _ rfl w.heap.size .u64 (zw Nat.lor a b) rfl 40 _ q0 Try.underlying40 rfl hz.out ?_) | (refine store_law rfl 40 _ _ rfl (w.heap.size + 1 + 1) .u64 Mk.zero (zw Nat.lor a b) rfl rfl 40 q2 hlen.out hz.out ?_; intro w7 hw7))
      exact bodyPost_ret (results_row rfl _ _ (w.heap.size + 1 + 1) .u64 40 _ _ rfl (q2.hidSet hw7) Try.underlying40 rfl hz.out) rfl ⟨rfl, below_hidSet hb0 hw7 (by omega)⟩
end Go.Proofs.Ythmlibapjhmdbaa
