/- span, All of mask. -/
import Derived.Test.YthmlibapjhmdbaaW2
namespace Go.Proofs.Ythmlibapjhmdbaa
open Go.RowKit

theorem range'_snoc (a k : Nat) : List.range' a (k + 1) = List.range' a k ++ [a + k] := by
  rw [List.range'_concat]; simp
theorem range'_lt {a n : Nat} (h : a + n ≤ 256) : ∀ x ∈ List.range' a n, x < 256 := by
  intro x hx; rw [List.mem_range'_1] at hx; omega
theorem bmore {a b c : World} (h : Below a.heap.size a b) (k : Below b.heap.size b c) : Below a.heap.size a c := h.trans (k.mono h.size)

theorem zero_len {l : List Nat} (h : Mk.W4 l) : Mk.zero.length = l.length := by rw [h.1]; rfl
theorem len_zero {l : List Nat} (h : Mk.W4 l) : l.length = Mk.zero.length := by rw [h.1]; rfl
theorem len_len {l m : List Nat} (h : Mk.W4 l) (k : Mk.W4 m) : l.length = m.length := by rw [h.1, k.1]
theorem info33' {l : List Nat} (h : Mk.W4 l) : (Try.prog.info? 40).map (·.size) = some l.length := by rw [h.1]; exact info33

set_option maxRecDepth 100000 in
set_option maxHeartbeats 400000 in
theorem span_any (a n : Nat) (w : World) (h : a + n ≤ 256) :
    Calls Try.prog 58 #[.int .i64 (a : Int), .int .i64 ((a : Int) + n - 1)] w fun e w' => e = .returned (.agg (vs .u64 (Mk.ofL (List.range' a n)))) ∧ Below w.heap.size w w' := by
  go_enter Try.func58, Try.ntmps58
  go_wp2_with fail
  go_loopw [6] (fun i wr => ∃ k : Nat, k ≤ n ∧ i = .int .i64 ((a : Int) + k) ∧ Row .u64 40 wr w.heap.size Mk.zero ∧ Row .u64 40 wr (w.heap.size + 1) (Mk.ofL (List.range' a k)) ∧ Below w.heap.size w wr)
    (fun i _ => n + a - (intOf i).toNat)
  case atStart =>
    refine ⟨0, by omega, by simp, (Row.new w .u64 40 Mk.zero _ rfl).alloc _, ?_, ((Below.refl _ _).alloc (Nat.le_refl _) _).alloc (by simp) _⟩
    have := Row.new (w.alloc (.cells (vs .u64 Mk.zero) 40)) .u64 40 Mk.zero _ rfl
    rw [size_alloc] at this
    exact this
  case round =>
    obtain ⟨k, hk, rfl, r0, r1, hb⟩ := hrel
    have hw := Lib.hid (Mk.ofL_W4 (range'_lt (a := a) (n := k) (by omega)))
    have hz := Lib.hid (info33' hw.out)
    by_cases hlt : k < n
    · have hw2 := Lib.hid (hw.out.wth (c := a + k) (by omega))
      have HS : Hid (Mk.ofL (List.range' a (k + 1)) = Mk.wth (Mk.ofL (List.range' a k)) (a + k)) := by
        show _ = _; rw [range'_snoc, Mk.ofL_snoc]
      have hz2 := Lib.hid (info33' hw2.out)
      have hlen := Lib.hid (len_len hw.out hw2.out)
      generalize Mk.ofL (List.range' a k) = m at *
      have hcast : ((a : Int) + (k : Int)) = ((a + k : Nat) : Int) := by simp
      rw [hcast]
      clear hcast
      go_wp2_with (first | (refine load_law rfl 40 _ rfl (w.heap.size + 1) .u64 m rfl 40 _ r1 Try.underlying40 rfl hz.out ?_) | ((go_at_call 68; refine (with_any m (a + k) _ hw.out (by omega)).mono ?_); rintro e w2 ⟨rfl, hb2⟩; have r02 := r0.below hb2 r0.lt; have r12 := r1.below hb2 r1.lt; have hb22 := bmore hb hb2; clear hb2) | (refine store_law rfl 40 _ _ rfl (w.heap.size + 1) .u64 m (Mk.wth m (a + k)) rfl rfl 40 r12 hlen.out hz2.out ?_; intro w7 hw7))
      go_roundw
      case rel =>
        refine ⟨k + 1, by omega, by go_num, r02.hidOther hw7 (by omega), ?_, below_hidSet hb22 hw7 (by omega)⟩
        rw [HS.out]; exact r12.hidSet hw7
      case measure => simp [intOf]; omega
    · obtain rfl : k = n := by omega
      have hlen := Lib.hid (zero_len hw.out)
      go_wp2_with (first | (refine load_law rfl 40 _ rfl (w.heap.size + 1) .u64 (Mk.ofL (List.range' a k)) rfl 40 _ r1 Try.underlying40 rfl hz.out ?_) | (refine store_law rfl 40 _ _ rfl w.heap.size .u64 Mk.zero (Mk.ofL (List.range' a k)) rfl rfl 40 r0 hlen.out hz.out ?_; intro w7 hw7))
      exact bodyPost_ret (results_row rfl _ _ w.heap.size .u64 40 _ _ rfl (r0.hidSet hw7) Try.underlying40 rfl hz.out) rfl ⟨rfl, below_hidSet hb hw7 (by omega)⟩

set_option maxRecDepth 100000 in
set_option maxHeartbeats 400000 in
theorem maskAll_ok (n : Nat) (w : World) (h : n ≤ 256) :
    Calls Try.prog 42 #[.int .i64 (n : Int)] w fun e w' => e = .returned (.tuple #[.agg (vs .u64 (Mk.ofL (List.range n))), .int .i64 0]) ∧ Below w.heap.size w w' := by
  have hw := Lib.hid (Mk.ofL_W4 (range'_lt (a := 0) (n := n) (by omega)))
  have hz := Lib.hid (info33' hw.out)
  have hlen := Lib.hid (zero_len hw.out)
  have r0 := Row.new w .u64 40 Mk.zero _ rfl
  have hb0 := (Below.refl _ w).alloc (Nat.le_refl _) (.cells (vs .u64 Mk.zero) 40)
  have hd : decide ((n : Int) < 0) = false := by simp
  have hd2 : decide ((256 : Int) < (n : Int)) = false := by simp; omega
  have hsp := fun W => span_any 0 n W (by omega)
  simp only [Int.natCast_zero, Int.zero_add] at hsp
  have HSP := Lib.hid hsp
  clear hsp
  go_enter Try.func42, Try.ntmps42
  go_wp2_with (first | ((go_at_call 58; refine (HSP.out _).mono ?_); rintro e w2 ⟨rfl, hb2⟩; have r02 := r0.below hb2 r0.lt; have hb22 := bmore hb0 hb2; clear hb2) | (refine store_law rfl 40 _ _ rfl w.heap.size .u64 Mk.zero (Mk.ofL (List.range' 0 n)) rfl rfl 40 r02 hlen.out hz.out ?_; intro w7 hw7))
  rw [List.range_eq_range']
  exact bodyPost_ret (results_row_tmp rfl _ _ w.heap.size .u64 40 _ _ rfl (r02.hidSet hw7) Try.underlying40 rfl hz.out) rfl ⟨rfl, below_hidSet hb22 hw7 (by omega)⟩

set_option maxRecDepth 100000 in
set_option maxHeartbeats 400000 in
theorem maskAll_bad (n : Int) (w : World) (h : n < 0 ∨ 256 < n) :
    Calls Try.prog 42 #[.int .i64 n] w fun e w' => e = .returned (.tuple #[.agg (vs .u64 Mk.zero), .int .i64 1]) ∧ Below w.heap.size w w' := by
  have r0 := Row.new w .u64 40 Mk.zero _ rfl
  have hb0 := (Below.refl _ w).alloc (Nat.le_refl _) (.cells (vs .u64 Mk.zero) 40)
  have hz := Lib.hid (info33' Mk.W4.zero)
  by_cases h0 : n < 0
  · go_enter Try.func42, Try.ntmps42
    go_wp2_with (refine store_law rfl 40 _ _ rfl w.heap.size .u64 Mk.zero Mk.zero rfl rfl 40 r0 rfl hz.out ?_; intro w7 hw7)
    exact bodyPost_ret (results_row_tmp rfl _ _ w.heap.size .u64 40 _ _ rfl (r0.hidSet hw7) Try.underlying40 rfl hz.out) rfl ⟨rfl, below_hidSet hb0 hw7 (by omega)⟩
  · have hd : decide (n < 0) = false := by simp; omega
    have h1 : 256 < n := by omega
    clear h
    go_enter Try.func42, Try.ntmps42
    go_wp2_with (refine store_law rfl 40 _ _ rfl w.heap.size .u64 Mk.zero Mk.zero rfl rfl 40 r0 rfl hz.out ?_; intro w7 hw7)
    exact bodyPost_ret (results_row_tmp rfl _ _ w.heap.size .u64 40 _ _ rfl (r0.hidSet hw7) Try.underlying40 rfl hz.out) rfl ⟨rfl, below_hidSet hb0 hw7 (by omega)⟩

end Go.Proofs.Ythmlibapjhmdbaa
