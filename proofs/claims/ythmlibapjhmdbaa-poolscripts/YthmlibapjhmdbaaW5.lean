/- Check, own, All, Socket of cores. -/
import Derived.Test.YthmlibapjhmdbaaW4
namespace Go.Proofs.Ythmlibapjhmdbaa
open Go.RowKit

/-- Block g is just these cells. -/
def Bk (w : World) (g : Nat) (t : TypeId) (cs : Array Value) : Prop := w.heap[g]? = some (.cells cs t (0, 0))
theorem Bk.lt {w : World} {g : Nat} {t : TypeId} {cs : Array Value} (h : Bk w g t cs) : g < w.heap.size := (Array.getElem?_eq_some_iff.1 h).1
theorem Bk.cell {w : World} {g : Nat} {t : TypeId} {cs : Array Value} (h : Bk w g t cs) (i : Nat) (v : Value) (hv : cs[i]? = some v) : w.cell? ⟨g, i, none⟩ = some v := (cell_of_row w g i cs t (0, 0) h).trans hv
theorem Bk.frozen {w : World} {g : Nat} {t : TypeId} {cs : Array Value} (h : Bk w g t cs) (i : Nat) : w.frozen? ⟨g, i, none⟩ = false := frozen_of_row w g i cs t h
theorem Bk.below {w w' : World} {B g : Nat} {t : TypeId} {cs : Array Value} (h : Bk w g t cs) (hb : Below B w w') (hg : g < B) : Bk w' g t cs := (hb.block g hg).trans h
theorem Bk.next {w w' : World} {g : Nat} {t : TypeId} {cs : Array Value} (h : Bk w g t cs) (hb : Below w.heap.size w w') : Bk w' g t cs := h.below hb h.lt
theorem Bk.alloc {w : World} {g : Nat} {t : TypeId} {cs : Array Value} (h : Bk w g t cs) (o : Obj) : Bk (w.alloc o) g t cs := (Below.heap_alloc w o g h.lt).trans h
theorem Bk.new (w : World) (t : TypeId) (cs : Array Value) : Bk (w.alloc (.cells cs t)) w.heap.size t cs := heap_alloc_new w _
theorem Row.next {k : IntKind} {t : TypeId} {w w' : World} {g : Nat} {l : List Nat} (h : Row k t w g l) (hb : Below w.heap.size w w') : Row k t w' g l := h.below hb h.lt

/-- A layout that may be. -/
def LOk (s p : Nat) : Prop := 1 ≤ s ∧ s ≤ 8 ∧ 1 ≤ p ∧ p ≤ 64 ∧ s * p ≤ 256
/-- A layout that may not be. -/
def LBad (s p : Int) : Prop := ¬ (1 ≤ s ∧ s ≤ 8 ∧ 1 ≤ p ∧ p ≤ 64 ∧ s * p ≤ 256)
theorem LOk_or (s p : Int) : (∃ a b : Nat, s = a ∧ p = b ∧ LOk a b) ∨ LBad s p := by
  by_cases h : 1 ≤ s ∧ s ≤ 8 ∧ 1 ≤ p ∧ p ≤ 64 ∧ s * p ≤ 256
  · left
    obtain ⟨h1, h2, h3, h4, h5⟩ := h
    obtain ⟨a, rfl⟩ := Int.eq_ofNat_of_zero_le (show 0 ≤ s by omega)
    obtain ⟨b, rfl⟩ := Int.eq_ofNat_of_zero_le (show 0 ≤ p by omega)
    refine ⟨a, b, rfl, rfl, by omega, by omega, by omega, by omega, ?_⟩
    have : ((a * b : Nat) : Int) ≤ 256 := by simpa using h5
    omega
  · exact .inr h

theorem mul_in (s p : Int) (h1 : 1 ≤ s) (h2 : s ≤ 8) (h3 : 1 ≤ p) (h4 : p ≤ 64) : 1 ≤ s * p ∧ s * p ≤ 512 := by
  constructor
  · have := Int.mul_le_mul h1 h3 (by omega) (by omega); simpa using this
  · have := Int.mul_le_mul h2 h4 (by omega) (by omega); simpa using this

theorem count_in (s p : Int) (w : World) (h1 : 1 ≤ s) (h2 : s ≤ 8) (h3 : 1 ≤ p) (h4 : p ≤ 64) :
    Calls Try.prog 43 #[.agg #[.int .i64 s, .int .i64 p]] w fun e w' => e = .returned (.int .i64 (s * p)) ∧ Below w.heap.size w w' := by
  have := mul_in s p h1 h2 h3 h4
  exact count_any s p w (IntWalk.i64_in _ (by omega))
theorem count_nat (s p : Nat) (w : World) (h : LOk s p) :
    Calls Try.prog 43 #[.agg #[.int .i64 s, .int .i64 p]] w fun e w' => e = .returned (.int .i64 (s * p : Nat)) ∧ Below w.heap.size w w' := by
  obtain ⟨h1, h2, h3, h4, h5⟩ := h
  have := count_in s p w (by omega) (by omega) (by omega) (by omega)
  simpa using this

set_option maxRecDepth 100000 in
set_option maxHeartbeats 400000 in
theorem check_ok (s p : Nat) (w : World) (h : LOk s p) :
    Calls Try.prog 29 #[.agg #[.int .i64 s, .int .i64 p]] w fun e w' => e = .returned (.int .i64 0) ∧ Below w.heap.size w w' := by
  have H := Lib.hid h
  obtain ⟨h1, h2, h3, h4, h5⟩ := h
  have hb0 := (Below.refl _ w).alloc (Nat.le_refl _) (.cells #[.int .i64 s, .int .i64 p] 28)
  have hd : decide ((256 : Int) < ((s * p : Nat) : Int)) = false := by simp; omega
  have hd' : decide ((256 : Int) < (s : Int) * (p : Int)) = false := by rw [← Int.natCast_mul]; exact hd
  clear h5
  go_enter Try.func29, Try.ntmps29
  go_wp2_with (first | ((go_at_call 49; refine (within_yes _ _ _ (by omega) (by omega)).mono ?_); rintro e w' ⟨rfl, rfl⟩) | ((go_at_call 43; refine (count_nat s p _ H.out).mono ?_); rintro e w2 ⟨rfl, hb2⟩; replace hb0 := bmore hb0 hb2; clear hb2))
  go_ret
  exact ⟨rfl, hb0⟩

set_option maxRecDepth 100000 in
set_option maxHeartbeats 400000 in
theorem check_bad (s p : Int) (w : World) (h : LBad s p) :
    Calls Try.prog 29 #[.agg #[.int .i64 s, .int .i64 p]] w fun e w' => e = .returned (.int .i64 1) ∧ Below w.heap.size w w' := by
  have hb0 := (Below.refl _ w).alloc (Nat.le_refl _) (.cells #[.int .i64 s, .int .i64 p] 28)
  unfold LBad at h
  by_cases h1 : s < 1 ∨ 8 < s
  · clear h
    go_enter Try.func29, Try.ntmps29
    go_wp2_with ((go_at_call 49; refine (within_no _ _ _ h1).mono ?_); rintro e w' ⟨rfl, rfl⟩)
    go_ret
    exact ⟨rfl, hb0⟩
  · have s1 : 1 ≤ s := by omega
    have s2 : s ≤ 8 := by omega
    clear h1
    by_cases h3 : p < 1 ∨ 64 < p
    · clear h
      go_enter Try.func29, Try.ntmps29
      go_wp2_with (first | ((go_at_call 49; with_reducible refine (within_yes s 8 _ s1 s2).mono ?_); rintro e w' ⟨rfl, rfl⟩) | ((go_at_call 49; with_reducible refine (within_no p 64 _ h3).mono ?_); rintro e w' ⟨rfl, rfl⟩))
      go_ret
      exact ⟨rfl, hb0⟩
    · have p1 : 1 ≤ p := by omega
      have p2 : p ≤ 64 := by omega
      clear h3
      have h5 : 256 < s * p := by
        have : ¬ s * p ≤ 256 := fun h5 => h ⟨s1, s2, p1, p2, h5⟩
        omega
      clear h
      have H5 := Lib.hid h5
      go_enter Try.func29, Try.ntmps29
      go_wp2_with (first | ((go_at_call 49; with_reducible refine (within_yes s 8 _ s1 s2).mono ?_); rintro e w' ⟨rfl, rfl⟩) | ((go_at_call 49; with_reducible refine (within_yes p 64 _ p1 p2).mono ?_); rintro e w' ⟨rfl, rfl⟩) | ((go_at_call 43; refine (count_in s p _ s1 s2 p1 p2).mono ?_); rintro e w2 ⟨rfl, hb2⟩; replace hb0 := bmore hb0 hb2; clear hb2))
      go_ret
      exact ⟨rfl, hb0⟩

set_option maxRecDepth 100000 in
set_option maxHeartbeats 400000 in
theorem own_any (s p : Int) (w : World) :
    Calls Try.prog 10 #[.agg #[.int .i64 s, .int .i64 p]] w fun e w' => e = .returned (.agg #[.int .i64 s, .int .i64 p]) ∧ Below w.heap.size w w' := by
  go_enter Try.func10, Try.ntmps10
  go_wp2
  refine bodyPost_ret (v := .agg #[.int .i64 s, .int .i64 p]) (by simp [results, Try.results10, go_sem]) rfl ⟨rfl, ?_⟩
  exact ((Below.refl _ _).alloc (Nat.le_refl _) _).alloc (by simp) _

set_option maxRecDepth 100000 in
set_option maxHeartbeats 400000 in
theorem call_ok (s p : Nat) (w : World) (h : LOk s p) :
    Calls Try.prog 23 #[.agg #[.int .i64 s, .int .i64 p]] w fun e w' => e = .returned (.agg (vs .u64 (Mk.ofL (List.range (s * p))))) ∧ Below w.heap.size w w' := by
  have H := Lib.hid h
  have h5 := h.2.2.2.2
  clear h
  have hw := Lib.hid (Mk.ofL_W4 (xs := List.range (s * p)) (fun x hx => by rw [List.mem_range] at hx; omega))
  have hz := Lib.hid (info33' hw.out)
  have hlen := Lib.hid (zero_len hw.out)
  have ha := fun W => maskAll_ok (s * p) W h5
  have HA := Lib.hid ha
  clear ha h5
  have hb0 := ((Below.refl _ w).alloc (Nat.le_refl _) (.cells #[.int .i64 s, .int .i64 p] 28)).alloc (by simp) (.cells (vs .u64 Mk.zero) 40)
  have r0 : Row .u64 40 ((w.alloc (.cells #[.int .i64 s, .int .i64 p] 28)).alloc (.cells (vs .u64 Mk.zero) 40)) (w.heap.size + 1) Mk.zero := by
    have := Row.new (w.alloc (.cells #[.int .i64 s, .int .i64 p] 28)) .u64 40 Mk.zero _ rfl
    rw [size_alloc] at this
    exact this
  have k0 := (Bk.new w 28 #[.int .i64 s, .int .i64 p]).alloc (.cells (vs .u64 Mk.zero) 40)
  generalize Mk.ofL (List.range (s * p)) = m at *
  go_enter Try.func23, Try.ntmps23
  go_wp2_with fail
  refine (check_ok s p _ H.out).mono ?_
  rintro e w2 ⟨rfl, hb2⟩
  replace k0 := k0.next hb2
  replace r0 := r0.next hb2
  replace hb0 := bmore hb0 hb2
  clear hb2
  have c0 := k0.cell 0 _ rfl
  have c1 := k0.cell 1 _ rfl
  go_wp2_with fail
  refine (count_nat s p _ H.out).mono ?_
  rintro e w3 ⟨rfl, hb3⟩
  clear c0 c1
  replace r0 := r0.next hb3
  replace hb0 := bmore hb0 hb3
  clear hb3 k0
  go_wp2_with fail
  refine (HA.out _).mono ?_
  rintro e w4 ⟨rfl, hb4⟩
  replace r0 := r0.next hb4
  replace hb0 := bmore hb0 hb4
  clear hb4
  have r1 := Row.new w4 .u64 40 Mk.zero _ rfl
  have hs4 := hb0.size
  have hl4 := r0.lt
  replace r0 := r0.alloc (.cells (vs .u64 Mk.zero) 40)
  replace hb0 := hb0.alloc (by omega) (.cells (vs .u64 Mk.zero) 40)
  go_wp2_with (first | (refine store_law rfl 40 _ _ rfl w4.heap.size .u64 Mk.zero m rfl rfl 40 r1 hlen.out hz.out ?_; intro w7 hw7; have r11 := r1.hidSet hw7; have r01 := r0.hidOther hw7 (by omega); have hb1 := below_hidSet hb0 hw7 (by omega); clear hw7) | (refine load_w rfl 40 _ rfl w4.heap.size .u64 m rfl 40 _ r11 Try.underlying40 rfl hz.out ?_) | (refine store_law rfl 40 _ _ rfl (w.heap.size + 1) .u64 Mk.zero m rfl rfl 40 r01 hlen.out hz.out ?_; intro w8 hw8))
  exact bodyPost_ret (results_row rfl _ _ (w.heap.size + 1) .u64 40 _ _ rfl (r01.hidSet hw8) Try.underlying40 rfl hz.out) rfl ⟨rfl, below_hidSet hb1 hw8 (by omega)⟩

set_option maxRecDepth 100000 in
set_option maxHeartbeats 400000 in
theorem call_bad (s p : Int) (w : World) (h : LBad s p) :
    Calls Try.prog 23 #[.agg #[.int .i64 s, .int .i64 p]] w fun e w' => e = .returned (.agg (vs .u64 Mk.zero)) ∧ Below w.heap.size w w' := by
  have H := Lib.hid h
  clear h
  have hz := Lib.hid (info33' Mk.W4.zero)
  have hb0 := ((Below.refl _ w).alloc (Nat.le_refl _) (.cells #[.int .i64 s, .int .i64 p] 28)).alloc (by simp) (.cells (vs .u64 Mk.zero) 40)
  have r0 : Row .u64 40 ((w.alloc (.cells #[.int .i64 s, .int .i64 p] 28)).alloc (.cells (vs .u64 Mk.zero) 40)) (w.heap.size + 1) Mk.zero := by
    have := Row.new (w.alloc (.cells #[.int .i64 s, .int .i64 p] 28)) .u64 40 Mk.zero _ rfl
    rw [size_alloc] at this
    exact this
  go_enter Try.func23, Try.ntmps23
  go_wp2_with fail
  refine (check_bad s p _ H.out).mono ?_
  rintro e w2 ⟨rfl, hb2⟩
  replace r0 := r0.next hb2
  replace hb0 := bmore hb0 hb2
  clear hb2
  go_wp2_with (refine store_law rfl 40 _ _ rfl (w.heap.size + 1) .u64 Mk.zero Mk.zero rfl rfl 40 r0 rfl hz.out ?_; intro w8 hw8)
  exact bodyPost_ret (results_row rfl _ _ (w.heap.size + 1) .u64 40 _ _ rfl (r0.hidSet hw8) Try.underlying40 rfl hz.out) rfl ⟨rfl, below_hidSet hb0 hw8 (by omega)⟩

theorem range_W4 {n : Nat} (h : n ≤ 256) : Mk.W4 (Mk.ofL (List.range n)) := Mk.ofL_W4 (fun x hx => by rw [List.mem_range] at hx; omega)
theorem range_has {n : Nat} (h : n ≤ 256) (c : Nat) : Mk.hasB (Mk.ofL (List.range n)) c = decide (c < n) := by
  rw [Mk.has_ofL (fun x hx => by rw [List.mem_range] at hx; omega)]; simp

set_option maxRecDepth 100000 in
set_option maxHeartbeats 400000 in
theorem has_no (l : List Nat) (c : Int) (w : World) (h : c < 0 ∨ 256 ≤ c) :
    Calls Try.prog 71 #[.agg (vs .u64 l), .int .i64 c] w fun e w' => e = .returned (.bool false) ∧ Below w.heap.size w w' := by
  go_enter Try.func71, Try.ntmps71
  go_wp2_with (go_at_call 72; refine (isCore_no _ _ h).mono ?_; rintro e w' ⟨rfl, rfl⟩)
  go_ret
  exact ⟨rfl, (Below.refl _ _).alloc (Nat.le_refl _) _⟩

end Go.Proofs.Ythmlibapjhmdbaa
