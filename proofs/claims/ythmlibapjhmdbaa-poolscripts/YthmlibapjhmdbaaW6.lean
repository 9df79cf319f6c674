/- block, cyclic, distributionOf. -/
import Derived.Test.YthmlibapjhmdbaaW5
namespace Go.Proofs.Ythmlibapjhmdbaa
open Go.RowKit

theorem run_store_fn (P : Program) (w : World) (a : Addr) (m : Mode) (f : Fn) (b c : Array Value) : (store a (.func f b c) m).run P w = stored P w a (.func f b c) m := run_store P w a _ m rfl
theorem run_store_nilfn (P : Program) (w : World) (a : Addr) (m : Mode) : (store a .nilFunc m).run P w = stored P w a .nilFunc m := run_store P w a _ m rfl
attribute [local go_sem] run_store_fn run_store_nilfn

set_option maxHeartbeats 400000 in
theorem block_any (s p : Int) (w : World) :
    Calls Try.prog 69 #[.agg #[.int .i64 s, .int .i64 p]] w fun e w' => e = .returned (.func (.func 84) #[] #[.pointer (some ⟨w.heap.size, 0, none⟩)]) ∧ w' = w.alloc (.cells #[.int .i64 s, .int .i64 p] 28) := by
  go_enter Try.func69, Try.ntmps69
  go_wp2
  go_ret
  exact ⟨rfl, rfl⟩
set_option maxHeartbeats 400000 in
theorem cyclic_any (s p : Int) (w : World) :
    Calls Try.prog 70 #[.agg #[.int .i64 s, .int .i64 p]] w fun e w' => e = .returned (.func (.func 85) #[] #[.pointer (some ⟨w.heap.size, 0, none⟩)]) ∧ w' = w.alloc (.cells #[.int .i64 s, .int .i64 p] 28) := by
  go_enter Try.func70, Try.ntmps70
  go_wp2
  go_ret
  exact ⟨rfl, rfl⟩

theorem Bk.set_ {w : World} {g : Nat} {t : TypeId} {v : Value} (h : Bk w g t #[v]) (u : Value) : Bk (w.setCell ⟨g, 0, none⟩ u) g t #[u] := by
  have := heap_setCell_same w g 0 _ t u h
  exact this
/-- A distribution was told: function f, over a box that holds the layout. -/
def DistOf (s p : Nat) (f : Nat) (w : World) (e : Ending) (w' : World) : Prop :=
  ∃ g, e = .returned (.tuple #[.agg #[.func (.func f) #[] #[.pointer (some ⟨g, 0, none⟩)]], .int .i64 0]) ∧ Bk w' g 28 #[.int .i64 s, .int .i64 p] ∧ Below w.heap.size w w'

set_option maxRecDepth 100000 in
set_option maxHeartbeats 400000 in
theorem dist_block (s p : Nat) (w : World) (h : LOk s p) : Calls Try.prog 59 #[.agg #[.int .i64 s, .int .i64 p], .int .i64 0] w (DistOf s p 84 w) := by
  have H := Lib.hid h
  clear h
  have hb0 := ((Below.refl _ w).alloc (Nat.le_refl _) (.cells #[.int .i64 s, .int .i64 p] 28)).alloc (by simp) (.cells #[.nilFunc] 100)
  have k0 := (Bk.new w 28 #[.int .i64 s, .int .i64 p]).alloc (.cells #[.nilFunc] 100)
  have k1 : Bk ((w.alloc (.cells #[.int .i64 s, .int .i64 p] 28)).alloc (.cells #[.nilFunc] 100)) (w.heap.size + 1) 100 #[.nilFunc] := by
    have := Bk.new (w.alloc (.cells #[.int .i64 s, .int .i64 p] 28)) 100 #[.nilFunc]
    rw [size_alloc] at this
    exact this
  go_enter Try.func59, Try.ntmps59
  go_wp2_with fail
  refine (check_ok s p _ H.out).mono ?_
  rintro e w2 ⟨rfl, hb2⟩
  replace k0 := k0.next hb2
  replace k1 := k1.next hb2
  replace hb0 := bmore hb0 hb2
  clear hb2
  have c0 := k0.cell 0 _ rfl
  have c1 := k0.cell 1 _ rfl
  go_wp2_with fail
  refine (block_any s p _).mono ?_
  rintro e w3 ⟨rfl, hw3⟩
  have k2 : Bk w3 w2.heap.size 28 #[.int .i64 s, .int .i64 p] := by rw [hw3]; exact Bk.new w2 28 _
  have k3 : Bk w3 (w.heap.size + 1) 100 #[.nilFunc] := by rw [hw3]; exact k1.alloc _
  have hb3 : Below w.heap.size w w3 := by rw [hw3]; exact hb0.alloc hb0.size _
  have hl := k1.lt
  clear hw3 c0 c1 k1 k0 hb0
  have c2 := k3.cell 0 _ rfl
  have f2 := k3.frozen 0
  go_wp2_with fail
  have c3 := (k3.set_ (.func (.func 84) #[] #[.pointer (some ⟨w2.heap.size, 0, none⟩)])).cell 0 _ rfl
  refine bodyPost_ret (v := .tuple #[.agg #[.func (.func 84) #[] #[.pointer (some ⟨w2.heap.size, 0, none⟩)]], .int .i64 0]) (by simp [results, Try.results59, go_sem, c3]) rfl ⟨w2.heap.size, rfl, ?_, ?_⟩
  · exact (heap_setCell_other _ _ _ _ (by simp; omega)).trans k2
  · exact hb3.setCell (by simp) _
set_option maxRecDepth 100000 in
set_option maxHeartbeats 400000 in
theorem dist_cyclic (s p : Nat) (w : World) (h : LOk s p) : Calls Try.prog 59 #[.agg #[.int .i64 s, .int .i64 p], .int .i64 1] w (DistOf s p 85 w) := by
  have H := Lib.hid h
  clear h
  have hb0 := ((Below.refl _ w).alloc (Nat.le_refl _) (.cells #[.int .i64 s, .int .i64 p] 28)).alloc (by simp) (.cells #[.nilFunc] 100)
  have k0 := (Bk.new w 28 #[.int .i64 s, .int .i64 p]).alloc (.cells #[.nilFunc] 100)
  have k1 : Bk ((w.alloc (.cells #[.int .i64 s, .int .i64 p] 28)).alloc (.cells #[.nilFunc] 100)) (w.heap.size + 1) 100 #[.nilFunc] := by
    have := Bk.new (w.alloc (.cells #[.int .i64 s, .int .i64 p] 28)) 100 #[.nilFunc]
    rw [size_alloc] at this
    exact this
  go_enter Try.func59, Try.ntmps59
  go_wp2_with fail
  refine (check_ok s p _ H.out).mono ?_
  rintro e w2 ⟨rfl, hb2⟩
  replace k0 := k0.next hb2
  replace k1 := k1.next hb2
  replace hb0 := bmore hb0 hb2
  clear hb2
  have c0 := k0.cell 0 _ rfl
  have c1 := k0.cell 1 _ rfl
  go_wp2_with fail
  refine (cyclic_any s p _).mono ?_
  rintro e w3 ⟨rfl, hw3⟩
  have k2 : Bk w3 w2.heap.size 28 #[.int .i64 s, .int .i64 p] := by rw [hw3]; exact Bk.new w2 28 _
  have k3 : Bk w3 (w.heap.size + 1) 100 #[.nilFunc] := by rw [hw3]; exact k1.alloc _
  have hb3 : Below w.heap.size w w3 := by rw [hw3]; exact hb0.alloc hb0.size _
  have hl := k1.lt
  clear hw3 c0 c1 k1 k0 hb0
  have c2 := k3.cell 0 _ rfl
  have f2 := k3.frozen 0
  go_wp2_with fail
  have c3 := (k3.set_ (.func (.func 85) #[] #[.pointer (some ⟨w2.heap.size, 0, none⟩)])).cell 0 _ rfl
  refine bodyPost_ret (v := .tuple #[.agg #[.func (.func 85) #[] #[.pointer (some ⟨w2.heap.size, 0, none⟩)]], .int .i64 0]) (by simp [results, Try.results59, go_sem, c3]) rfl ⟨w2.heap.size, rfl, ?_, ?_⟩
  · exact (heap_setCell_other _ _ _ _ (by simp; omega)).trans k2
  · exact hb3.setCell (by simp) _

set_option maxRecDepth 100000 in
set_option maxHeartbeats 400000 in
theorem dist_bad (s p d : Int) (w : World) (h : LBad s p) : Calls Try.prog 59 #[.agg #[.int .i64 s, .int .i64 p], .int .i64 d] w fun e w' => e = .returned (.tuple #[.agg #[.nilFunc], .int .i64 1]) ∧ Below w.heap.size w w' := by
  have H := Lib.hid h
  clear h
  have hb0 := ((Below.refl _ w).alloc (Nat.le_refl _) (.cells #[.int .i64 s, .int .i64 p] 28)).alloc (by simp) (.cells #[.nilFunc] 100)
  have k1 : Bk ((w.alloc (.cells #[.int .i64 s, .int .i64 p] 28)).alloc (.cells #[.nilFunc] 100)) (w.heap.size + 1) 100 #[.nilFunc] := by
    have := Bk.new (w.alloc (.cells #[.int .i64 s, .int .i64 p] 28)) 100 #[.nilFunc]
    rw [size_alloc] at this
    exact this
  go_enter Try.func59, Try.ntmps59
  go_wp2_with fail
  refine (check_bad s p _ H.out).mono ?_
  rintro e w2 ⟨rfl, hb2⟩
  replace k1 := k1.next hb2
  replace hb0 := bmore hb0 hb2
  clear hb2
  have c2 := k1.cell 0 _ rfl
  have f2 := k1.frozen 0
  go_wp2_with fail
  have c3 := (k1.set_ .nilFunc).cell 0 _ rfl
  refine bodyPost_ret (v := .tuple #[.agg #[.nilFunc], .int .i64 1]) (by simp [results, Try.results59, go_sem, c3]) rfl ⟨rfl, ?_⟩
  exact hb0.setCell (by simp) _

set_option maxRecDepth 100000 in
set_option maxHeartbeats 400000 in
theorem dist_none (s p : Nat) (d : Int) (w : World) (h : LOk s p) (h0 : (d == 0) = false) (h1 : (d == 1) = false) : Calls Try.prog 59 #[.agg #[.int .i64 s, .int .i64 p], .int .i64 d] w fun e w' => e = .returned (.tuple #[.agg #[.nilFunc], .int .i64 1]) ∧ Below w.heap.size w w' := by
  have H := Lib.hid h
  clear h
  have hb0 := ((Below.refl _ w).alloc (Nat.le_refl _) (.cells #[.int .i64 s, .int .i64 p] 28)).alloc (by simp) (.cells #[.nilFunc] 100)
  have k1 : Bk ((w.alloc (.cells #[.int .i64 s, .int .i64 p] 28)).alloc (.cells #[.nilFunc] 100)) (w.heap.size + 1) 100 #[.nilFunc] := by
    have := Bk.new (w.alloc (.cells #[.int .i64 s, .int .i64 p] 28)) 100 #[.nilFunc]
    rw [size_alloc] at this
    exact this
  go_enter Try.func59, Try.ntmps59
  go_wp2_with fail
  refine (check_ok s p _ H.out).mono ?_
  rintro e w2 ⟨rfl, hb2⟩
  replace k1 := k1.next hb2
  replace hb0 := bmore hb0 hb2
  clear hb2
  have c2 := k1.cell 0 _ rfl
  have f2 := k1.frozen 0
  go_wp2_with fail
  have c3 := (k1.set_ .nilFunc).cell 0 _ rfl
  refine bodyPost_ret (v := .tuple #[.agg #[.nilFunc], .int .i64 1]) (by simp [results, Try.results59, go_sem, c3]) rfl ⟨rfl, ?_⟩
  exact hb0.setCell (by simp) _
end Go.Proofs.Ythmlibapjhmdbaa
