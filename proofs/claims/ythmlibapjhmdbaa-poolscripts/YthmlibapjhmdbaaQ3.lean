/- A pool: New, has, Release. -/
import Derived.Test.YthmlibapjhmdbaaQ2
namespace Go.Proofs.Ythmlibapjhmdbaa
open Go.RowKit Go.Shelf Go.Maps

theorem has_any {w : World} {p b k s q : Nat} {g : Int → Option Sh} (h : PoolAt w p b k s q g) {n : Int} (hn : (Lit.int .i64 n).wf = true) :
    Calls Try.prog 44 #[.pointer (some ⟨p, 0, none⟩), .int .i64 n] w fun e w' => e = .returned (.bool (g n).isSome) ∧ Below w.heap.size w w' :=
  has_walk p b n _ _ _ _ _ _ w h.cells.2.2 (h.look hn).1

set_option maxRecDepth 100000 in
set_option maxHeartbeats 400000 in
theorem new_ok (s q : Nat) (w : World) (h : LOk s q) :
    Calls Try.prog 9 #[.agg #[.int .i64 s, .int .i64 q]] w fun e w' => ∃ p b, e = .returned (.pointer (some ⟨p, 0, none⟩)) ∧ w.heap.size ≤ p ∧ w.heap.size ≤ b ∧ PoolAt w' p b 0 s q (fun _ => Option.none) ∧ Below w.heap.size w w' := by
  have H := Lib.hid h
  clear h
  have hb0 := (Below.refl _ w).alloc (Nat.le_refl _) (.cells #[.int .i64 s, .int .i64 q] 28)
  have k0 := Bk.new w 28 #[.int .i64 s, .int .i64 q]
  have hmm := @run_makeMap Try.prog
  go_enter Try.func9, Try.ntmps9
  go_wp2_with fail
  refine (check_ok s q _ H.out).mono ?_
  rintro e w1 ⟨rfl, hb⟩
  replace hb0 := bmore hb0 hb; replace k0 := k0.next hb; clear hb
  have c0 := k0.cell 0 _ rfl
  have c1 := k0.cell 1 _ rfl
  go_wp2_with fail
  go_ret
  have hs := hb0.size
  refine ⟨w1.heap.size + 1, w1.heap.size, rfl, by omega, by omega, ⟨?_, .map [], ?_, says_none⟩, ?_⟩
  · have := Bk.new (w1.alloc (.map #[] 0)) 67 #[.int .i64 s, .int .i64 q, .map (some w1.heap.size)]
    rw [size_alloc] at this
    exact this
  · exact (World.ownsMap_made w1 Try.prog 3 shE).alloc _
  · exact (hb0.alloc hb0.size _).alloc (by rw [size_alloc]; omega) _

set_option maxRecDepth 100000 in
set_option maxHeartbeats 400000 in
theorem new_bad (s q : Int) (w : World) (h : LBad s q) :
    Calls Try.prog 9 #[.agg #[.int .i64 s, .int .i64 q]] w fun e w' => e = .returned (.pointer Option.none) ∧ Below w.heap.size w w' := by
  have H := Lib.hid h
  clear h
  have hb0 := (Below.refl _ w).alloc (Nat.le_refl _) (.cells #[.int .i64 s, .int .i64 q] 28)
  go_enter Try.func9, Try.ntmps9
  go_wp2_with fail
  refine (check_bad s q _ H.out).mono ?_
  rintro e w1 ⟨rfl, hb⟩
  go_wp2_with fail
  go_ret
  exact ⟨rfl, bmore hb0 hb⟩

/-- A pool of which one owner has turned; all else is as it was. -/
structure Turned (w w' : World) (p b k s q : Nat) (g : Int → Option Sh) : Prop where
  pool : PoolAt w' p b k s q g
  grown : w.grownBy w' (some b)
theorem Bk.grown {w w' : World} {g b : Nat} {t : TypeId} {cs : Array Value} (h : Bk w g t cs) (hg : w.grownBy w' (some b)) (hne : g ≠ b) : Bk w' g t cs := (hg.block g h.lt (by simpa using hne)).trans h
theorem PoolAt.ne {w : World} {p b k s q : Nat} {g : Int → Option Sh} (h : PoolAt w p b k s q g) : p ≠ b := by
  rintro rfl
  obtain ⟨D, ⟨es, cl, hb, _⟩, _⟩ := h.own
  have := h.blk
  unfold Bk at this
  rw [hb] at this
  cases this

set_option maxRecDepth 100000 in
set_option maxHeartbeats 400000 in
theorem release_no {w : World} {p b k s q : Nat} {g : Int → Option Sh} (h : PoolAt w p b k s q g) {n : Int} (hn : (Lit.int .i64 n).wf = true) (hg : (g n).isSome = false) :
    Calls Try.prog 25 #[.pointer (some ⟨p, 0, none⟩), .int .i64 n] w fun e w' => e = .returned (.int .i64 14) ∧ Below w.heap.size w w' := by
  have K := Lib.hid (has_any h hn)
  rw [hg] at K
  clear hg
  go_enter Try.func25, Try.ntmps25
  go_wp2_with fail
  refine K.out.mono ?_
  rintro e w1 ⟨rfl, hb⟩
  go_wp2_with fail
  go_ret
  exact ⟨rfl, hb⟩

set_option maxRecDepth 100000 in
set_option maxHeartbeats 400000 in
theorem release_ok {w : World} {p b k s q : Nat} {g : Int → Option Sh} (h : PoolAt w p b k s q g) {n : Int} (hn : (Lit.int .i64 n).wf = true) (hg : (g n).isSome = true) :
    Calls Try.prog 25 #[.pointer (some ⟨p, 0, none⟩), .int .i64 n] w fun e w' => e = .returned (.int .i64 0) ∧ Turned w w' p b k s q (fun m => if m = n then Option.none else g m) := by
  have K := Lib.hid (has_any h hn)
  rw [hg] at K
  clear hg
  have HN := Lib.hid hn
  clear hn
  go_enter Try.func25, Try.ntmps25
  go_wp2_with fail
  refine K.out.mono ?_
  rintro e w1 ⟨rfl, hb⟩
  have h1 := h.next hb
  obtain ⟨D, ho, hs⟩ := h1.own
  have c2 := h1.cells.2.2
  go_wp2_with (at_delete; refine wpList_delete_own _ rfl _ _ 65 3 rfl 78 law Try.underlying65 _ b k D rfl ho _ _ rfl (key_of HN.out) ?_; intro w2 ho2 ht2)
  go_ret
  refine ⟨rfl, ⟨?_, D.del (ky n), ho2, hs.del n ho2.isMap⟩, ?_⟩
  · exact h1.blk.grown ht2.grown h1.ne
  · exact (only_of_below hb).but _ |>.trans ht2.grown
end Go.Proofs.Ythmlibapjhmdbaa
