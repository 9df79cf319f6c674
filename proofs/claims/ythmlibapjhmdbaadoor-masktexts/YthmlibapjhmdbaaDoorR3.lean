/- The document's Lowest, Has and All of any number; told. -/
import Derived.Test.YthmlibapjhmdbaaDoorR2
import Derived.Test.YthmlibapjhmdbaaDoorL2
namespace Go.Proofs.YthmlibapjhmdbaaDoor
open Go.RowKit Go.Shelf

set_option maxRecDepth 100000 in
set_option maxHeartbeats 400000 in
theorem told_any (a0 a1 a2 a3 : Int) (w : World) :
    Calls Tryd.prog 21 #[.agg #[.int .u64 a0, .int .u64 a1, .int .u64 a2, .int .u64 a3]] w fun e w' => e = .returned (.agg #[.int .u64 a0, .int .u64 a1, .int .u64 a2, .int .u64 a3]) ∧ Below w.heap.size w w' := by
  go_enter Tryd.func21, Tryd.ntmps21
  go_wp2
  refine bodyPost_ret (v := .agg #[.int .u64 a0, .int .u64 a1, .int .u64 a2, .int .u64 a3]) (by simp [results, Tryd.results21, go_sem]) rfl ⟨rfl, ?_⟩
  exact ((Below.refl _ _).alloc (Nat.le_refl _) _).alloc (by simp) _

theorem nats_take {w : World} {B : Nat} {A : Option Addr} {xs : List Nat} (h : NatsAt w B A xs) (n : Nat) : NatsAt w B A (xs.take n) := by
  rcases h with rfl | ⟨ad, rfl, hb, hc⟩
  · exact .inl (by simp)
  · refine .inr ⟨ad, rfl, hb, fun j hj => ?_⟩
    rw [List.length_take] at hj
    rw [hc j (by omega)]
    congr 3
    rw [Mk.nth_getElem?, Mk.nth_getElem?, List.getElem?_take, if_pos (by omega)]

set_option maxRecDepth 100000 in
set_option maxHeartbeats 1000000 in
theorem rLowest_neg (x0 x1 x2 x3 : Nat) (n : Int) (w : World) (hx : Mk.W4 [x0, x1, x2, x3]) (hn : n < 0) :
    Calls Tryd.prog 23 #[.agg #[.int .u64 x0, .int .u64 x1, .int .u64 x2, .int .u64 x3], .int .i64 n] w fun e w' => e = .returned (.tuple #[.agg (vs .u64 Mk.zero), .int .i64 1]) ∧ Below w.heap.size w w' := by
  have t0 : decide (n < 0) = true := by simpa using hn
  have HX := Lib.hid hx
  clear hx
  have hz := Lib.hid (info40 Mk.W4.zero.1)
  have r2 := Row.new (w.alloc (.cells #[.int .u64 x0, .int .u64 x1, .int .u64 x2, .int .u64 x3] 24)) .u64 24 Mk.zero #[.int .u64 0, .int .u64 0, .int .u64 0, .int .u64 0] rfl
  have hb0 := ((Below.refl _ w).alloc (Nat.le_refl _) (.cells #[.int .u64 x0, .int .u64 x1, .int .u64 x2, .int .u64 x3] 24)).alloc (by simp) (.cells #[.int .u64 0, .int .u64 0, .int .u64 0, .int .u64 0] 24)
  simp only [size_alloc] at r2
  go_enter Tryd.func23, Tryd.ntmps23
  go_wp2_with fail
  refine (rList_any x0 x1 x2 x3 _ HX.out).mono ?_
  rintro e w1 ⟨A, ca, rfl, hc, hA, hb⟩
  replace r2 := r2.next hb; replace hb0 := bmore hb0 hb; clear hb hA
  generalize (S [x0, x1, x2, x3]).length = q at *
  go_wp2_with (refine store_law rfl 24 _ _ rfl (w.heap.size + 1) .u64 Mk.zero Mk.zero rfl rfl 24 r2 rfl hz.out ?_; intro w7 hw7)
  exact bodyPost_ret (results_row_tmp rfl _ _ (w.heap.size + 1) .u64 24 _ _ rfl (r2.hidSet hw7) Tryd.underlying24 rfl hz.out) rfl ⟨rfl, below_hidSet hb0 hw7 (by omega)⟩

set_option maxRecDepth 100000 in
set_option maxHeartbeats 1000000 in
theorem rLowest_nat (x0 x1 x2 x3 n : Nat) (w : World) (hx : Mk.W4 [x0, x1, x2, x3]) :
    Calls Tryd.prog 23 #[.agg #[.int .u64 x0, .int .u64 x1, .int .u64 x2, .int .u64 x3], .int .i64 n] w fun e w' => e = .returned (.tuple #[.agg (vs .u64 (lowOut [x0, x1, x2, x3] n).1), .int .i64 ((lowOut [x0, x1, x2, x3] n).2 : Nat)]) ∧ Below w.heap.size w w' := by
  have t0 : decide ((n : Int) < 0) = false := by simp
  have HX := Lib.hid hx
  have hle : (S [x0, x1, x2, x3]).length ≤ 256 := by rw [S_cnt]; exact cnt_le _
  clear hx
  have r2 := Row.new (w.alloc (.cells #[.int .u64 x0, .int .u64 x1, .int .u64 x2, .int .u64 x3] 24)) .u64 24 Mk.zero #[.int .u64 0, .int .u64 0, .int .u64 0, .int .u64 0] rfl
  have hb0 := ((Below.refl _ w).alloc (Nat.le_refl _) (.cells #[.int .u64 x0, .int .u64 x1, .int .u64 x2, .int .u64 x3] 24)).alloc (by simp) (.cells #[.int .u64 0, .int .u64 0, .int .u64 0, .int .u64 0] 24)
  simp only [size_alloc] at r2
  by_cases hk : n ≤ (S [x0, x1, x2, x3]).length
  · rw [low_ok hk]
    have HW := Lib.hid (Mk.ofL_W4 (take_lt [x0, x1, x2, x3] n))
    have HE := Lib.hid (wds_ofL (take_lt [x0, x1, x2, x3] n))
    have hlen : Hid (((S [x0, x1, x2, x3]).take n).length = n) := by show _ = _; rw [List.length_take]; omega
    have hz := Lib.hid (info40 HW.out.1)
    have hl4 := Lib.hid (zero_len HW.out)
    go_enter Tryd.func23, Tryd.ntmps23
    go_wp2_with fail
    refine (rList_any x0 x1 x2 x3 _ HX.out).mono ?_
    rintro e w1 ⟨A, ca, rfl, hc, hA, hb⟩
    replace r2 := r2.next hb; replace hb0 := bmore hb0 hb; clear hb
    replace hA := Lib.hid (nats_take hA n)
    generalize (S [x0, x1, x2, x3]).length = q at *
    have t1 : decide ((q : Int) < (n : Int)) = false := by simp; omega
    have t2 : (n : Int) ≤ (ca : Int) := by omega
    go_wp2_with fail
    refine (make_any A ca n _ _ hA.out hlen.out (by omega)).mono ?_
    rintro e w2 ⟨rfl, hb⟩
    rw [HE.out]
    replace r2 := r2.next hb; replace hb0 := bmore hb0 hb; clear hb
    go_wp2_with (refine store_law rfl 24 _ _ rfl (w.heap.size + 1) .u64 Mk.zero (Mk.ofL ((S [x0, x1, x2, x3]).take n)) rfl rfl 24 r2 hl4.out hz.out ?_; intro w7 hw7)
    exact bodyPost_ret (results_row_tmp rfl _ _ (w.heap.size + 1) .u64 24 _ _ rfl (r2.hidSet hw7) Tryd.underlying24 rfl hz.out) rfl ⟨rfl, below_hidSet hb0 hw7 (by omega)⟩
  · rw [low_bad hk]
    have hz := Lib.hid (info40 Mk.W4.zero.1)
    go_enter Tryd.func23, Tryd.ntmps23
    go_wp2_with fail
    refine (rList_any x0 x1 x2 x3 _ HX.out).mono ?_
    rintro e w1 ⟨A, ca, rfl, hc, hA, hb⟩
    replace r2 := r2.next hb; replace hb0 := bmore hb0 hb; clear hb hA
    generalize (S [x0, x1, x2, x3]).length = q at *
    have t1 : decide ((q : Int) < (n : Int)) = true := by simp; omega
    go_wp2_with (refine store_law rfl 24 _ _ rfl (w.heap.size + 1) .u64 Mk.zero Mk.zero rfl rfl 24 r2 rfl hz.out ?_; intro w7 hw7)
    exact bodyPost_ret (results_row_tmp rfl _ _ (w.heap.size + 1) .u64 24 _ _ rfl (r2.hidSet hw7) Tryd.underlying24 rfl hz.out) rfl ⟨rfl, below_hidSet hb0 hw7 (by omega)⟩

set_option maxRecDepth 100000 in
set_option maxHeartbeats 400000 in
theorem rHas_no (l : List Nat) (c : Int) (w : World) (h : c < 0 ∨ 256 ≤ c) :
    Calls Tryd.prog 20 #[.agg (vs .u64 l), .int .i64 c] w fun e w' => e = .returned (.bool false) ∧ Below w.heap.size w w' := by
  have hb := (Below.refl _ w).alloc (Nat.le_refl _) (.cells (vs .u64 l) 24)
  rcases h with h | h
  · have t0 : decide (c < 0) = true := by simpa using h
    go_enter Tryd.func20, Tryd.ntmps20
    go_wp2_with fail
    go_ret
    exact ⟨rfl, hb⟩
  · have t0 : decide (c < 0) = false := by simp; omega
    have t1 : decide ((255 : Int) < c) = true := by simp; omega
    go_enter Tryd.func20, Tryd.ntmps20
    go_wp2_with fail
    go_ret
    exact ⟨rfl, hb⟩

set_option maxRecDepth 100000 in
set_option maxHeartbeats 400000 in
theorem rAll_bad (n : Int) (w : World) (h : n < 0 ∨ 256 < n) :
    Calls Tryd.prog 14 #[.int .i64 n] w fun e w' => e = .returned (.tuple #[.agg (vs .u64 Mk.zero), .int .i64 1]) ∧ Below w.heap.size w w' := by
  have hz := Lib.hid (info40 Mk.W4.zero.1)
  have r2 := Row.new w .u64 24 Mk.zero #[.int .u64 0, .int .u64 0, .int .u64 0, .int .u64 0] rfl
  have hb0 := (Below.refl _ w).alloc (Nat.le_refl _) (.cells #[.int .u64 0, .int .u64 0, .int .u64 0, .int .u64 0] 24)
  rcases h with h | h
  · have t0 : decide (n < 0) = true := by simpa using h
    go_enter Tryd.func14, Tryd.ntmps14
    go_wp2_with (refine store_law rfl 24 _ _ rfl w.heap.size .u64 Mk.zero Mk.zero rfl rfl 24 r2 rfl hz.out ?_; intro w7 hw7)
    exact bodyPost_ret (results_row_tmp rfl _ _ w.heap.size .u64 24 _ _ rfl (r2.hidSet hw7) Tryd.underlying24 rfl hz.out) rfl ⟨rfl, below_hidSet hb0 hw7 (by omega)⟩
  · have t0 : decide (n < 0) = false := by simp; omega
    have t1 : decide ((256 : Int) < n) = true := by simpa using h
    go_enter Tryd.func14, Tryd.ntmps14
    go_wp2_with (refine store_law rfl 24 _ _ rfl w.heap.size .u64 Mk.zero Mk.zero rfl rfl 24 r2 rfl hz.out ?_; intro w7 hw7)
    exact bodyPost_ret (results_row_tmp rfl _ _ w.heap.size .u64 24 _ _ rfl (r2.hidSet hw7) Tryd.underlying24 rfl hz.out) rfl ⟨rfl, below_hidSet hb0 hw7 (by omega)⟩
end Go.Proofs.YthmlibapjhmdbaaDoor
