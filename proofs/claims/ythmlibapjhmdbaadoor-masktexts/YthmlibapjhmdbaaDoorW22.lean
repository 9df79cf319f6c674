/- Of where a number comes twice. -/
import Derived.Test.YthmlibapjhmdbaaDoorW4
namespace Go.Proofs.YthmlibapjhmdbaaDoor
open Go.RowKit

theorem take_take_of {xs : List Nat} {k p : Nat} (h : k < p) : (xs.take p).take k = xs.take k := by rw [List.take_take, Nat.min_eq_left (by omega)]
theorem nth_take {xs : List Nat} {k p : Nat} (h : k < p) : Mk.nth (xs.take p) k = Mk.nth xs k := by
  rw [Mk.nth_getElem?, Mk.nth_getElem?, List.getElem?_take, if_pos h]

set_option maxRecDepth 100000 in
set_option maxHeartbeats 400000 in
theorem of_dup (A : Option Addr) (cap p : Nat) (xs : List Nat) (w : World) (hA : NatsAt w w.heap.size A xs) (hx : ∀ x ∈ xs.take p, x < 256) (hn : (xs.take p).Nodup) (hl : xs.length ≤ maxLen) (hp : p < xs.length) (hc0 : Mk.nth xs p < 256) (hd : Mk.nth xs p ∈ xs.take p) :
    Calls Tryd.prog 11 #[.slice A xs.length cap] w fun e w' => e = .returned (.tuple #[.agg (vs .u64 Mk.zero), .int .i64 1]) ∧ Below w.heap.size w w' := by
  have HX := Lib.hid hx
  have HN := Lib.hid hn
  have HD := Lib.hid hd
  have HC := Lib.hid hc0
  have hzz := Lib.hid (info33' Mk.W4.zero)
  clear hx hn hd hc0
  unfold maxLen at hl
  have hpl : (xs.take p).length = p := by rw [List.length_take]; omega
  have HPL := Lib.hid hpl
  clear hpl
  go_enter Tryd.func11, Tryd.ntmps11
  go_wp2_with fail
  go_loopw [9] (fun i wr => ∃ k : Nat, k ≤ p ∧ i = .int .i64 k ∧ Row .u64 27 wr w.heap.size Mk.zero ∧ Row .u64 27 wr (w.heap.size + 1) (Mk.ofL (xs.take k)) ∧ Below w.heap.size w wr)
    (fun i _ => p - (intOf i).toNat)
  case atStart =>
    refine ⟨0, by omega, rfl, (Row.new w .u64 27 Mk.zero _ rfl).alloc _, ?_, ((Below.refl _ _).alloc (Nat.le_refl _) _).alloc (by simp) _⟩
    have := Row.new (w.alloc (.cells (vs .u64 Mk.zero) 27)) .u64 27 Mk.zero _ rfl
    rw [size_alloc] at this
    exact this
  case round =>
    obtain ⟨k, hk, rfl, r0, r1, hb⟩ := hrel
    have hlt : k < xs.length := by omega
    obtain ⟨ad, rfl, hblk, hcell⟩ := (hA.below hb).at_ hlt
    by_cases hkp : k < p
    · have hw := Lib.hid (Mk.ofL_W4 (xs := xs.take k) (fun x hx => HX.out x (by rw [← take_take_of hkp] at hx; exact List.mem_of_mem_take hx)))
      have hz := Lib.hid (info33' hw.out)
      have hc := HX.out (Mk.nth xs k) (by rw [← nth_take hkp]; exact nth_mem _ k (by rw [HPL.out]; exact hkp))
      have hw2 := Lib.hid (hw.out.wth hc)
      have HS : Hid (Mk.ofL (xs.take (k + 1)) = Mk.wth (Mk.ofL (xs.take k)) (Mk.nth xs k)) := by
        show _ = _; rw [take_snoc xs k hlt, Mk.ofL_snoc]
      have HF : Hid (Mk.hasB (Mk.ofL (xs.take k)) (Mk.nth xs k) = false) := by
        show _ = _
        rw [Mk.has_ofL (fun x hx => HX.out x (by rw [← take_take_of hkp] at hx; exact List.mem_of_mem_take hx))]
        have := nodup_take (xs.take p) k (by rw [HPL.out]; exact hkp) HN.out
        rw [take_take_of hkp, nth_take hkp] at this
        simpa using this
      have hz2 := Lib.hid (info33' hw2.out)
      have hlen := Lib.hid (len_len hw.out hw2.out)
      have i1 : (k : Int) < (xs.length : Int) := by omega
      generalize Mk.ofL (xs.take k) = m at *
      generalize Mk.nth xs k = c at *
      go_wp2_with (first | (refine load_w rfl 27 _ rfl (w.heap.size + 1) .u64 m rfl 27 _ r1 Tryd.underlying27 rfl hz.out ?_) | ((go_at_call 34; refine (isCore_yes _ _ (by omega) (by omega)).mono ?_); rintro e w' ⟨rfl, rfl⟩) | ((go_at_call 19; refine (has_in m c _ hw.out hc).mono ?_); rintro e w2 ⟨rfl, hb2⟩; rw [HF.out]; replace r0 := r0.below hb2 r0.lt; replace r1 := r1.below hb2 r1.lt; replace hb := bmore hb hb2; clear hb2) | ((go_at_call 35; refine (with_any m c _ hw.out hc).mono ?_); rintro e w2 ⟨rfl, hb2⟩; have r02 := r0.below hb2 r0.lt; have r12 := r1.below hb2 r1.lt; have hb22 := bmore hb hb2; clear hb2) | (refine store_law rfl 27 _ _ rfl (w.heap.size + 1) .u64 m (Mk.wth m c) rfl rfl 27 r12 hlen.out hz2.out ?_; intro w7 hw7))
      go_roundw
      case rel =>
        refine ⟨k + 1, by omega, by go_num, r02.hidOther hw7 (by omega), ?_, below_hidSet hb22 hw7 (by omega)⟩
        rw [HS.out]; exact r12.hidSet hw7
      case measure => simp [intOf]; omega
    · obtain rfl : k = p := by omega
      have hw := Lib.hid (Mk.ofL_W4 (xs := xs.take k) HX.out)
      have hz := Lib.hid (info33' hw.out)
      have hc := HC.out
      have HF : Hid (Mk.hasB (Mk.ofL (xs.take k)) (Mk.nth xs k) = true) := by
        show _ = _
        rw [Mk.has_ofL HX.out]
        exact decide_eq_true HD.out
      have i1 : (k : Int) < (xs.length : Int) := by omega
      generalize Mk.ofL (xs.take k) = m at *
      generalize Mk.nth xs k = c at *
      go_wp2_with (first | (refine load_w rfl 27 _ rfl (w.heap.size + 1) .u64 m rfl 27 _ r1 Tryd.underlying27 rfl hz.out ?_) | ((go_at_call 34; refine (isCore_yes _ _ (by omega) (by omega)).mono ?_); rintro e w' ⟨rfl, rfl⟩) | ((go_at_call 19; refine (has_in m c _ hw.out hc).mono ?_); rintro e w2 ⟨rfl, hb2⟩; rw [HF.out]; replace r0 := r0.below hb2 r0.lt; replace r1 := r1.below hb2 r1.lt; replace hb := bmore hb hb2; clear hb2) | (refine store_law rfl 27 _ _ rfl w.heap.size .u64 Mk.zero Mk.zero rfl rfl 27 r0 rfl hzz.out ?_; intro w7 hw7))
      exact bodyPost_ret (results_row_tmp rfl _ _ w.heap.size .u64 27 _ _ rfl (r0.hidSet hw7) Tryd.underlying27 rfl hzz.out) rfl ⟨rfl, below_hidSet hb hw7 (by omega)⟩
end Go.Proofs.YthmlibapjhmdbaaDoor
