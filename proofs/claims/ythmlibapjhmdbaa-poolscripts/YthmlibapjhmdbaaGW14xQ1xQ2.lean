/- And, Or, Minus of masks. -/
import Derived.Test.YthmlibapjhmdbaaGW12xW13
import Derived.Maps.OwnOps
import Derived.Maps.OwnSet
import Derived.Maps.Views
import Derived.Maps.RangeWalk
namespace Go.Proofs.Ythmlibapjhmdbaa
open Go.RowKit Go.Shelf

def andN (a b : Nat) : Nat := a &&& (18446744073709551615 - b)
/-- Word by word, the first k. -/
def upK (g : Nat → Nat → Nat) (a b : List Nat) (k : Nat) : List Nat := (List.zipWith g a b).take k ++ a.drop k
def zw (g : Nat → Nat → Nat) (a b : List Nat) : List Nat := List.zipWith g a b
theorem zw_len {g : Nat → Nat → Nat} {a b : List Nat} (ha : a.length = 4) (hb : b.length = 4) : (zw g a b).length = 4 := by simp [zw, ha, hb]
theorem upK_len {g : Nat → Nat → Nat} {a b : List Nat} (ha : a.length = 4) (hb : b.length = 4) (k : Nat) (hk : k ≤ 4) : (upK g a b k).length = 4 := by simp [upK, ha, hb]; omega
theorem upK_nth {g : Nat → Nat → Nat} {a b : List Nat} (ha : a.length = 4) (hb : b.length = 4) {k : Nat} (hk : k < 4) : Mk.nth (upK g a b k) k = Mk.nth a k := by
  match a, ha, b, hb with
  | [_, _, _, _], _, [_, _, _, _], _ =>
    match k, hk with
    | 0, _ | 1, _ | 2, _ | 3, _ => rfl
theorem upK_set {g : Nat → Nat → Nat} {a b : List Nat} (ha : a.length = 4) (hb : b.length = 4) {k : Nat} (hk : k < 4) : (upK g a b k).set k (g (Mk.nth a k) (Mk.nth b k)) = upK g a b (k + 1) := by
  match a, ha, b, hb with
  | [_, _, _, _], _, [_, _, _, _], _ =>
    match k, hk with
    | 0, _ | 1, _ | 2, _ | 3, _ => rfl
theorem upK_done {g : Nat → Nat → Nat} {a b : List Nat} (ha : a.length = 4) (hb : b.length = 4) : upK g a b 4 = zw g a b := by
  match a, ha, b, hb with
  | [_, _, _, _], _, [_, _, _, _], _ => rfl
theorem zw_nth {g : Nat → Nat → Nat} {a b : List Nat} (ha : a.length = 4) (hb : b.length = 4) {k : Nat} (hk : k < 4) : Mk.nth (zw g a b) k = g (Mk.nth a k) (Mk.nth b k) := by
  match a, ha, b, hb with
  | [_, _, _, _], _, [_, _, _, _], _ =>
    match k, hk with
    | 0, _ | 1, _ | 2, _ | 3, _ => rfl
theorem vs_index {l : List Nat} (h : l.length = 4) {k : Nat} (hk : k < 4) : (vs .u64 l)[k]? = some (.int .u64 (Mk.nth l k : Nat)) := vs_get .u64 l k (by omega)
theorem run_index33 {l : List Nat} (h : l.length = 4) {k : Nat} (hk : k < 4) (w : World) : (Instr.index 40 (.agg (vs .u64 l)) (.int .i64 (k : Int))).run Try.prog w = .ok (.int .u64 (Mk.nth l k : Nat)) w := by
  have u3 := Try.underlying33
  have a3 := Try.isAgg33
  have z3 := Try.sizeOf33
  have hv := vs_index h hk
  have h2 : (k : Int) < 4 := by omega
  unfold Instr.index
  simp only [Sem.run_bind, run_underlying Try.underlying40, Result.andThen_ok]
  simp [go_sem, hv, part, a3, z3]
  intro h3
  omega

set_option maxRecDepth 100000 in
set_option maxHeartbeats 400000 in
theorem and_any (a b : List Nat) (w : World) (ha : Mk.W4 a) (hb0 : Mk.W4 b) :
    Calls Try.prog 21 #[.agg (vs .u64 a), .agg (vs .u64 b)] w fun e w' => e = .returned (.agg (vs .u64 (zw Nat.land a b))) ∧ Below w.heap.size w w' := by
  have HA := Lib.hid ha
  have HB := Lib.hid hb0
  clear ha hb0
  have hzb := Lib.hid (info33' HB.out)
  have q0 := ((Row.new w .u64 40 a _ rfl).alloc (.cells (vs .u64 b) 40)).alloc (.cells (vs .u64 Mk.zero) 40)
  have q1 : Row .u64 40 (((w.alloc (.cells (vs .u64 a) 40)).alloc (.cells (vs .u64 b) 40)).alloc (.cells (vs .u64 Mk.zero) 40)) (w.heap.size + 1) b := by
    have := (Row.new (w.alloc (.cells (vs .u64 a) 40)) .u64 40 b _ rfl).alloc (.cells (vs .u64 Mk.zero) 40)
    rw [size_alloc] at this
    exact this
  have q2 : Row .u64 40 (((w.alloc (.cells (vs .u64 a) 40)).alloc (.cells (vs .u64 b) 40)).alloc (.cells (vs .u64 Mk.zero) 40)) (w.heap.size + 1 + 1) Mk.zero := by
    have := Row.new ((w.alloc (.cells (vs .u64 a) 40)).alloc (.cells (vs .u64 b) 40)) .u64 40 Mk.zero _ rfl
    rw [size_alloc, size_alloc] at this
    exact this
  have hb0 := (((Below.refl _ w).alloc (Nat.le_refl _) (.cells (vs .u64 a) 40)).alloc (by simp) (.cells (vs .u64 b) 40)).alloc (by simp; omega) (.cells (vs .u64 Mk.zero) 40)
  go_enter Try.func21, Try.ntmps21
  go_wp2_with (refine load_w rfl 40 _ rfl (w.heap.size + 1) .u64 b rfl 40 _ q1 Try.underlying40 rfl hzb.out ?_)
  go_loopw [8] (fun i wr => ∃ k : Nat, k ≤ 4 ∧ i = .int .i64 k ∧ Row .u64 40 wr w.heap.size (upK Nat.land a b k) ∧ Row .u64 40 wr (w.heap.size + 1 + 1) Mk.zero ∧ Below w.heap.size w wr)
    (fun i _ => 4 - (intOf i).toNat)
  case atStart => exact ⟨0, by omega, rfl, q0, q2, hb0⟩
  case round =>
    clear q0 q1 q2 hb0
    obtain ⟨k, hk, rfl, q0, q2, hb0⟩ := hrel
    by_cases hlt : k < 4
    · have HL := Lib.hid (upK_len (g := Nat.land) HA.out.1 HB.out.1 k hk)
      have c0 := q0.cell k (by rw [HL.out]; exact hlt)
      rw [upK_nth HA.out.1 HB.out.1 hlt] at c0
      have f0 := q0.frozen k
      have i0 : (0 : Int) ≤ (k : Int) := by omega
      have i1 : (k : Int) < 4 := by omega
      have e0 : bits BinOp.and IntKind.u64 (Mk.nth a k : Nat) (Mk.nth b k : Nat) = ((Nat.land (Mk.nth a k) (Mk.nth b k) : Nat) : Int) := u64_and_nat _ _ (HA.out.2 k) (HB.out.2 k)
      have HS := Lib.hid (upK_set (g := Nat.land) HA.out.1 HB.out.1 hlt)
      have vi := fun W => run_index33 HB.out.1 hlt W
      go_wp2_with fail
      go_roundw
      case rel =>
        refine ⟨k + 1, by omega, by go_num, ?_, q2.setOther _ (by simp; omega), hb0.setCell (by simp) _⟩
        have h9 := q0.set k (Nat.land (Mk.nth a k) (Mk.nth b k))
        rw [HS.out] at h9
        exact h9
      case measure => simp [intOf]; omega
    · obtain rfl : k = 4 := by omega
      rw [upK_done HA.out.1 HB.out.1] at q0
      have hz := Lib.hid (show (Try.prog.info? 40).map (·.size) = some (zw Nat.land a b).length by rw [zw_len HA.out.1 HB.out.1]; exact info33)
      have hlen := Lib.hid (show Mk.zero.length = (zw Nat.land a b).length by rw [zw_len HA.out.1 HB.out.1]; rfl)
      go_wp2_with (first | (refine load_w rfl 40 _ rfl w.heap.size .u64 (zw Nat.land a b) rfl 40 _ q0 Try.underlying40 rfl hz.out ?_) | (refine store_law rfl 40 _ _ rfl (w.heap.size + 1 + 1) .u64 Mk.zero (zw Nat.land a b) rfl rfl 40 q2 hlen.out hz.out ?_; intro w7 hw7))
      exact bodyPost_ret (results_row rfl _ _ (w.heap.size + 1 + 1) .u64 40 _ _ rfl (q2.hidSet hw7) Try.underlying40 rfl hz.out) rfl ⟨rfl, below_hidSet hb0 hw7 (by omega)⟩

set_option maxRecDepth 100000 in
set_option maxHeartbeats 400000 in
theorem minus_any (a b : List Nat) (w : World) (ha : Mk.W4 a) (hb0 : Mk.W4 b) :
    Calls Try.prog 24 #[.agg (vs .u64 a), .agg (vs .u64 b)] w fun e w' => e = .returned (.agg (vs .u64 (zw andN a b))) ∧ Below w.heap.size w w' := by
  have HA := Lib.hid ha
  have HB := Lib.hid hb0
  clear ha hb0
  have hzb := Lib.hid (info33' HB.out)
  have q0 := ((Row.new w .u64 40 a _ rfl).alloc (.cells (vs .u64 b) 40)).alloc (.cells (vs .u64 Mk.zero) 40)
  have q1 : Row .u64 40 (((w.alloc (.cells (vs .u64 a) 40)).alloc (.cells (vs .u64 b) 40)).alloc (.cells (vs .u64 Mk.zero) 40)) (w.heap.size + 1) b := by
    have := (Row.new (w.alloc (.cells (vs .u64 a) 40)) .u64 40 b _ rfl).alloc (.cells (vs .u64 Mk.zero) 40)
    rw [size_alloc] at this
    exact this
  have q2 : Row .u64 40 (((w.alloc (.cells (vs .u64 a) 40)).alloc (.cells (vs .u64 b) 40)).alloc (.cells (vs .u64 Mk.zero) 40)) (w.heap.size + 1 + 1) Mk.zero := by
    have := Row.new ((w.alloc (.cells (vs .u64 a) 40)).alloc (.cells (vs .u64 b) 40)) .u64 40 Mk.zero _ rfl
    rw [size_alloc, size_alloc] at this
    exact this
  have hb0 := (((Below.refl _ w).alloc (Nat.le_refl _) (.cells (vs .u64 a) 40)).alloc (by simp) (.cells (vs .u64 b) 40)).alloc (by simp; omega) (.cells (vs .u64 Mk.zero) 40)
  go_enter Try.func24, Try.ntmps24
  go_wp2_with (refine load_w rfl 40 _ rfl (w.heap.size + 1) .u64 b rfl 40 _ q1 Try.underlying40 rfl hzb.out ?_)
  go_loopw [8] (fun i wr => ∃ k : Nat, k ≤ 4 ∧ i = .int .i64 k ∧ Row .u64 40 wr w.heap.size (upK andN a b k) ∧ Row .u64 40 wr (w.heap.size + 1 + 1) Mk.zero ∧ Below w.heap.size w wr)
    (fun i _ => 4 - (intOf i).toNat)
  case atStart => exact ⟨0, by omega, rfl, q0, q2, hb0⟩
  case round =>
    clear q0 q1 q2 hb0
    obtain ⟨k, hk, rfl, q0, q2, hb0⟩ := hrel
    by_cases hlt : k < 4
    · have HL := Lib.hid (upK_len (g := andN) HA.out.1 HB.out.1 k hk)
      have c0 := q0.cell k (by rw [HL.out]; exact hlt)
      rw [upK_nth HA.out.1 HB.out.1 hlt] at c0
      have f0 := q0.frozen k
      have i0 : (0 : Int) ≤ (k : Int) := by omega
      have i1 : (k : Int) < 4 := by omega
      have e0 : bits BinOp.andNot IntKind.u64 (Mk.nth a k : Nat) (Mk.nth b k : Nat) = ((andN (Mk.nth a k) (Mk.nth b k) : Nat) : Int) := u64_andNot_nat _ _ (HA.out.2 k) (HB.out.2 k)
      have HS := Lib.hid (upK_set (g := andN) HA.out.1 HB.out.1 hlt)
      have vi := fun W => run_index33 HB.out.1 hlt W
      go_wp2_with fail
      go_roundw
      case rel =>
        refine ⟨k + 1, by omega, by go_num, ?_, q2.setOther _ (by simp; omega), hb0.setCell (by simp) _⟩
        have h9 := q0.set k (andN (Mk.nth a k) (Mk.nth b k))
        rw [HS.out] at h9
        exact h9
      case measure => simp [intOf]; omega
    · obtain rfl : k = 4 := by omega
      rw [upK_done HA.out.1 HB.out.1] at q0
      have hz := Lib.hid (show (Try.prog.info? 40).map (·.size) = some (zw andN a b).length by rw [zw_len HA.out.1 HB.out.1]; exact info33)
      have hlen := Lib.hid (show Mk.zero.length = (zw andN a b).length by rw [zw_len HA.out.1 HB.out.1]; rfl)
      go_wp2_with (first | (refine load_w rfl 40 _ rfl w.heap.size .u64 (zw andN a b) rfl 40 _ q0 Try.underlying40 rfl hz.out ?_) | (refine store_law rfl 40 _ _ rfl (w.heap.size + 1 + 1) .u64 Mk.zero (zw andN a b) rfl rfl 40 q2 hlen.out hz.out ?_; intro w7 hw7))
      exact bodyPost_ret (results_row rfl _ _ (w.heap.size + 1 + 1) .u64 40 _ _ rfl (q2.hidSet hw7) Try.underlying40 rfl hz.out) rfl ⟨rfl, below_hidSet hb0 hw7 (by omega)⟩

set_option maxRecDepth 100000 in
set_option maxHeartbeats 400000 in
theorem or_any (a b : List Nat) (w : World) (ha : Mk.W4 a) (hb0 : Mk.W4 b) :
    Calls Try.prog 22 #[.agg (vs .u64 a), .agg (vs .u64 b)] w fun e w' => e = .returned (.agg (vs .u64 (zw Nat.lor a b))) ∧ Below w.heap.size w w' := by
  have HA := Lib.hid ha
  have HB := Lib.hid hb0
  clear ha hb0
  have hzb := Lib.hid (info33' HB.out)
  have q0 := ((Row.new w .u64 40 a _ rfl).alloc (.cells (vs .u64 b) 40)).alloc (.cells (vs .u64 Mk.zero) 40)
  have q1 : Row .u64 40 (((w.alloc (.cells (vs .u64 a) 40)).alloc (.cells (vs .u64 b) 40)).alloc (.cells (vs .u64 Mk.zero) 40)) (w.heap.size + 1) b := by
    have := (Row.new (w.alloc (.cells (vs .u64 a) 40)) .u64 40 b _ rfl).alloc (.cells (vs .u64 Mk.zero) 40)
    rw [size_alloc] at this
    exact this
  have q2 : Row .u64 40 (((w.alloc (.cells (vs .u64 a) 40)).alloc (.cells (vs .u64 b) 40)).alloc (.cells (vs .u64 Mk.zero) 40)) (w.heap.size + 1 + 1) Mk.zero := by
    have := Row.new ((w.alloc (.cells (vs .u64 a) 40)).alloc (.cells (vs .u64 b) 40)) .u64 40 Mk.zero _ rfl
    rw [size_alloc, size_alloc] at this
    exact this
  have hb0 := (((Below.refl _ w).alloc (Nat.le_refl _) (.cells (vs .u64 a) 40)).alloc (by simp) (.cells (vs .u64 b) 40)).alloc (by simp; omega) (.cells (vs .u64 Mk.zero) 40)
  go_enter Try.func22, Try.ntmps22
  go_wp2_with (refine load_w rfl 40 _ rfl (w.heap.size + 1) .u64 b rfl 40 _ q1 Try.underlying40 rfl hzb.out ?_)
  go_loopw [8] (fun i wr => ∃ k : Nat, k ≤ 4 ∧ i = .int .i64 k ∧ Row .u64 40 wr w.heap.size (upK Nat.lor a b k) ∧ Row .u64 40 wr (w.heap.size + 1 + 1) Mk.zero ∧ Below w.heap.size w wr)
    (fun i _ => 4 - (intOf i).toNat)
  case atStart => exact ⟨0, by omega, rfl, q0, q2, hb0⟩
  case round =>
    clear q0 q1 q2 hb0
    obtain ⟨k, hk, rfl, q0, q2, hb0⟩ := hrel
    by_cases hlt : k < 4
    · have HL := Lib.hid (upK_len (g := Nat.lor) HA.out.1 HB.out.1 k hk)
      have c0 := q0.cell k (by rw [HL.out]; exact hlt)
      rw [upK_nth HA.out.1 HB.out.1 hlt] at c0
      have f0 := q0.frozen k
      have i0 : (0 : Int) ≤ (k : Int) := by omega
      have i1 : (k : Int) < 4 := by omega
      have e0 : bits BinOp.or IntKind.u64 (Mk.nth a k : Nat) (Mk.nth b k : Nat) = ((Nat.lor (Mk.nth a k) (Mk.nth b k) : Nat) : Int) := u64_or_nat _ _ (HA.out.2 k) (HB.out.2 k)
      have HS := Lib.hid (upK_set (g := Nat.lor) HA.out.1 HB.out.1 hlt)
      have vi := fun W => run_index33 HB.out.1 hlt W
      go_wp2_with fail
      go_roundw
      case rel =>
        refine ⟨k + 1, by omega, by go_num, ?_, q2.setOther _ (by simp; omega), hb0.setCell (by simp) _⟩
        have h9 := q0.set k (Nat.lor (Mk.nth a k) (Mk.nth b k))
        rw [HS.out] at h9
        exact h9
      case measure => simp [intOf]; omega
    · obtain rfl : k = 4 := by omega
      rw [upK_done HA.out.1 HB.out.1] at q0
      have hz := Lib.hid (show (Try.prog.info? 40).map (·.size) = some (zw Nat.lor a b).length by rw [zw_len HA.out.1 HB.out.1]; exact info33)
      have hlen := Lib.hid (show Mk.zero.length = (zw Nat.lor a b).length by rw [zw_len HA.out.1 HB.out.1]; rfl)
      go_wp2_with (first | (refine load_w rfl 40 _ rfl w.heap.size .u64 (zw Nat.lor a b) rfl 40 _ q0 Try.underlying40 rfl hz.out ?_) | (refine store_law rfl 40 _ _ rfl (w.heap.size + 1 + 1) .u64 Mk.zero (zw Nat.lor a b) rfl rfl 40 q2 hlen.out hz.out ?_; intro w7 hw7))
      exact bodyPost_ret (results_row rfl _ _ (w.heap.size + 1 + 1) .u64 40 _ _ rfl (q2.hidSet hw7) Try.underlying40 rfl hz.out) rfl ⟨rfl, below_hidSet hb0 hw7 (by omega)⟩
end Go.Proofs.Ythmlibapjhmdbaa
/- A pool in memory: its layout, and who has what, as a map. -/
namespace Go.Proofs.Ythmlibapjhmdbaa
open Go.RowKit Go.Shelf Go.Maps

/-- A share: its cores, and whether they are committed. -/
structure Sh where
  m : List Nat
  t : Bool
  ok : Mk.W4 m
def Sh.none : Sh := ⟨Mk.zero, false, Mk.W4.zero⟩
def shV (s : Sh) : Value := .agg #[.int .u64 (Mk.nth s.m 0 : Nat), .int .u64 (Mk.nth s.m 1 : Nat), .int .u64 (Mk.nth s.m 2 : Nat), .int .u64 (Mk.nth s.m 3 : Nat), .bool s.t]
def shD (s : Sh) : DataW Unit := .agg [.lit (.int .u64 (Mk.nth s.m 0 : Nat)), .lit (.int .u64 (Mk.nth s.m 1 : Nat)), .lit (.int .u64 (Mk.nth s.m 2 : Nat)), .lit (.int .u64 (Mk.nth s.m 3 : Nat)), .lit (.bool s.t)]
open Classical in
/-- How a share is read. -/
noncomputable def shE (v : Value) : Option (DataW Unit × List MemPlace) := if h : ∃ s, v = shV s then some (shD h.choose, []) else none
theorem Sh.ext' {a b : Sh} (hm : a.m = b.m) (ht : a.t = b.t) : a = b := by
  cases a; cases b; simp only at hm ht; subst hm; subst ht; rfl
theorem nat_cast_inj {a b : Nat} (h : (a : Int) = (b : Int)) : a = b := by omega
theorem m_of_nth {a b : Sh} (h0 : Mk.nth a.m 0 = Mk.nth b.m 0) (h1 : Mk.nth a.m 1 = Mk.nth b.m 1) (h2 : Mk.nth a.m 2 = Mk.nth b.m 2) (h3 : Mk.nth a.m 3 = Mk.nth b.m 3) : a.m = b.m := by
  rw [Mk.len4 a.ok.1, Mk.len4 b.ok.1, h0, h1, h2, h3]
theorem shV_inj {a b : Sh} (h : shV a = shV b) : a = b := by
  simp only [shV, Value.agg.injEq, Array.mk.injEq, List.cons.injEq, Value.int.injEq, Value.bool.injEq, true_and, and_true] at h
  obtain ⟨h0, h1, h2, h3, h4⟩ := h
  exact Sh.ext' (m_of_nth (nat_cast_inj h0) (nat_cast_inj h1) (nat_cast_inj h2) (nat_cast_inj h3)) h4
theorem shD_inj {a b : Sh} (h : shD a = shD b) : a = b := by
  simp only [shD, DataW.agg.injEq, List.cons.injEq, DataW.lit.injEq, Lit.int.injEq, Lit.bool.injEq, true_and, and_true] at h
  obtain ⟨h0, h1, h2, h3, h4⟩ := h
  exact Sh.ext' (m_of_nth (nat_cast_inj h0) (nat_cast_inj h1) (nat_cast_inj h2) (nat_cast_inj h3)) h4
theorem shE_mk (s : Sh) : shE (shV s) = some (shD s, []) := by
  unfold shE
  have h : ∃ s', shV s = shV s' := ⟨s, rfl⟩
  rw [dif_pos h, shV_inj h.choose_spec.symm]
theorem shE_inv {v : Value} {y : DataW Unit × List MemPlace} (h : shE v = some y) : ∃ s, v = shV s ∧ y = (shD s, []) := by
  unfold shE at h
  split at h
  · rename_i hx
    cases h
    exact ⟨hx.choose, hx.choose_spec, rfl⟩
  · cases h

theorem law : Keyed Try.prog 3 := int_keyed Try.underlying3
theorem zero78 (w : World) : (zeroValue 78).run Try.prog w = .ok (shV Sh.none) w := by kernel_rfl
abbrev ky (n : Int) : Lit := .int .i64 n
theorem key_of {n : Int} (h : (Lit.int .i64 n).wf = true) : keyOf Try.prog 3 (.int .i64 n) = some (ky n) := keyOf_int_mk Try.underlying3 h

/-- Who has what, as the map's datum says it. -/
structure Says (D : DataW Unit) (g : Int → Option Sh) : Prop where
  map : IsMap D
  has : ∀ n, Maps.has D (ky n) = (g n).isSome
  at_ : ∀ n s, g n = some s → ∀ z, D.atKey (ky n) z = shD s
theorem says_none : Says (.map []) (fun _ => Option.none) := ⟨⟨_, rfl⟩, fun _ => rfl, fun _ _ h => by cases h⟩
end Go.Proofs.Ythmlibapjhmdbaa
/- A pool: New, has. -/
namespace Go.Proofs.Ythmlibapjhmdbaa
open Go.RowKit Go.Shelf Go.Maps

theorem atKey_out {D : DataW Unit} {k : Lit} (hD : IsMap D) (h : Maps.has D k = false) (z : DataW Unit) : D.atKey k z = z := by
  obtain ⟨es, rfl⟩ := hD
  rw [Maps.has_eq] at h
  have hf : es.find? (fun p => p.1.sameKey k) = Option.none := List.find?_eq_none.2 (fun p hp => by
    have := List.any_eq_false.1 h p hp
    simpa using this)
  simp only [DataW.atKey, hf]
theorem ky_lit (n : Int) : WideAt.IsKeyLit (ky n) := trivial
theorem ky_ne {n m : Int} (h : n ≠ m) : ky n ≠ ky m := fun e => h (by cases e; rfl)
theorem Says.put {D : DataW Unit} {g : Int → Option Sh} (h : Says D g) (n : Int) (s : Sh) (hM : IsMap (D.put (ky n) (shD s))) : Says (D.put (ky n) (shD s)) (fun k => if k = n then some s else g k) := by
  refine ⟨hM, fun k => ?_, fun k s' hk z => ?_⟩
  · by_cases e : k = n
    · subst e
      rw [Maps.has_put_same h.map (ky_lit k), if_pos rfl]
      rfl
    · rw [Maps.has_put_other (ky_ne e), if_neg e, h.has]
  · by_cases e : k = n
    · subst e
      rw [if_pos rfl] at hk
      cases hk
      exact Maps.atKey_put_same h.map (ky_lit k) _ _
    · rw [if_neg e] at hk
      rw [Maps.atKey_put_other (ky_ne e)]
      exact h.at_ k s' hk z
theorem Says.del {D : DataW Unit} {g : Int → Option Sh} (h : Says D g) (n : Int) (hM : IsMap (D.del (ky n))) : Says (D.del (ky n)) (fun k => if k = n then Option.none else g k) := by
  refine ⟨hM, fun k => ?_, fun k s' hk z => ?_⟩
  · by_cases e : k = n
    · subst e
      rw [Maps.has_del_same, if_pos rfl]
      rfl
    · rw [Maps.has_del_other (ky_ne e), if_neg e, h.has]
  · by_cases e : k = n
    · rw [if_pos e] at hk; cases hk
    · rw [if_neg e] at hk
      rw [Maps.atKey_del_other (ky_ne e)]
      exact h.at_ k s' hk z

/-- A pool: its layout, its map's block, at most so many owners, and who has what. -/
structure PoolAt (w : World) (p b k s q : Nat) (g : Int → Option Sh) : Prop where
  blk : Bk w p 67 #[.int .i64 s, .int .i64 q, .map (some b)]
  own : ∃ D, w.ownsMap Try.prog 3 shE b k D ∧ Says D g
theorem PoolAt.next {w w' : World} {p b k s q : Nat} {g : Int → Option Sh} (h : PoolAt w p b k s q g) (hb : Below w.heap.size w w') : PoolAt w' p b k s q g := by
  obtain ⟨D, h1, h2⟩ := h.own
  exact ⟨h.blk.next hb, D, h1.kept (only_of_below hb) (by simp), h2⟩
theorem PoolAt.cells {w : World} {p b k s q : Nat} {g : Int → Option Sh} (h : PoolAt w p b k s q g) : w.cell? ⟨p, 0, none⟩ = some (.int .i64 s) ∧ w.cell? ⟨p, 1, none⟩ = some (.int .i64 q) ∧ w.cell? ⟨p, 2, none⟩ = some (.map (some b)) :=
  ⟨h.blk.cell 0 _ rfl, h.blk.cell 1 _ rfl, h.blk.cell 2 _ rfl⟩
theorem look_sh {D : DataW Unit} {g : Int → Option Sh} (h : Says D g) (n : Int) {v : Value} {ps : List MemPlace} (hv : shE v = some (D.atKey (ky n) (shD Sh.none), ps)) : v = shV ((g n).getD Sh.none) := by
  obtain ⟨s, rfl, hs⟩ := shE_inv hv
  congr 1
  apply shD_inj
  have e : D.atKey (ky n) (shD Sh.none) = shD s := congrArg Prod.fst hs
  rw [← e]
  cases hg : g n with
  | none => rw [atKey_out h.map (by rw [h.has, hg]; rfl)]; rfl
  | some s' => rw [h.at_ n s' hg]; rfl
/-- The map, asked for an owner. -/
theorem PoolAt.look {w : World} {p b k s q : Nat} {g : Int → Option Sh} (h : PoolAt w p b k s q g) {n : Int} (hn : (Lit.int .i64 n).wf = true) :
    (Instr.lookup 65 (.map (some b)) (.int .i64 n) true).run Try.prog w = .ok (.tuple #[shV ((g n).getD Sh.none), .bool (g n).isSome]) w ∧
    (Instr.lookup 65 (.map (some b)) (.int .i64 n) false).run Try.prog w = .ok (shV ((g n).getD Sh.none)) w := by
  obtain ⟨D, h1, h2⟩ := h.own
  obtain ⟨v, ps, hr, hv⟩ := h1.look_ok law Try.underlying65 (zero78 w) (shE_mk Sh.none) (key_of hn)
  obtain ⟨v', ps', hr', hv'⟩ := h1.lookup law Try.underlying65 (zero78 w) (shE_mk Sh.none) (key_of hn)
  rw [look_sh h2 n hv, h2.has n] at hr
  rw [look_sh h2 n hv'] at hr'
  exact ⟨hr, hr'⟩

set_option maxRecDepth 100000 in
set_option maxHeartbeats 400000 in
theorem has_walk (p b : Nat) (n : Int) (a0 a1 a2 a3 : Int) (t r : Bool) (w : World) (c2 : w.cell? ⟨p, 2, none⟩ = some (.map (some b)))
    (hl : (Instr.lookup 65 (.map (some b)) (.int .i64 n) true).run Try.prog w = .ok (.tuple #[.agg #[.int .u64 a0, .int .u64 a1, .int .u64 a2, .int .u64 a3, .bool t], .bool r]) w) :
    Calls Try.prog 44 #[.pointer (some ⟨p, 0, none⟩), .int .i64 n] w fun e w' => e = .returned (.bool r) ∧ Below w.heap.size w w' := by
  have hb := (Below.refl _ w).alloc (Nat.le_refl _) (.cells #[.int .u64 a0, .int .u64 a1, .int .u64 a2, .int .u64 a3, .bool t] 78)
  go_enter Try.func44, Try.ntmps44
  go_wp2_with fail
  go_ret
  exact ⟨rfl, hb⟩
end Go.Proofs.Ythmlibapjhmdbaa
