/- Less, Swap. -/
import Derived.Test.YtinbaepligploaaQ1
namespace Go.Proofs.Ytinbaepligploaa
open Go.RowKit Go.Shelf

theorem undrew {B : Nat} {a w : World} (h : Below B a.drew w) : Below B a w := ⟨h.os, h.tape, h.output, h.size, h.block⟩
theorem old_cell {V : World} {g k : Nat} {u : Value} (o : Obj) (h : V.cell? ⟨g, k, none⟩ = some u) : (V.alloc o).drew.cell? ⟨g, k, none⟩ = some u := by
  have hg : g < V.heap.size := by
    rcases Nat.lt_or_ge g V.heap.size with h2 | h2
    · exact h2
    · rw [World.cell?, Array.getElem?_eq_none h2] at h
      cases h
  exact ((below_alloc V o).cell (p := ⟨g, k, none⟩) hg).trans h
set_option maxRecDepth 100000 in
set_option maxHeartbeats 4000000 in
theorem less_any {V : World} {p : Nat} {v : Value} {L : List Dl} (h : Row V p v L) (i j : Nat) (hi : i < L.length) (hj : j < L.length) (_hm : L.length ≤ 1000) :
    Calls Try.prog 74 #[v, .int .i64 (i : Int), .int .i64 (j : Int)] V fun x V' => x = .returned (.bool (decide (lt (nt L i) (nt L j)))) ∧ Below V.heap.size V V' := by
  rw [← or_lt]
  obtain ⟨g, cap, rfl, hg, i0, i1, -, -, -⟩ := row_at h hi
  obtain ⟨g', cap', e, -, j0, j1, -, -, -⟩ := row_at h hj
  cases e
  clear h
  generalize nt L i = a at *
  generalize nt L j = b at *
  generalize L.length = n at *
  have hb := Below.refl V.heap.size V
  have i2 : (0 : Int) ≤ (i : Int) := by omega
  have i3 : (i : Int) < (n : Int) := by omega
  have j2 : (0 : Int) ≤ (j : Int) := by omega
  have j3 : (j : Int) < (n : Int) := by omega
  go_enter Try.func74, Try.ntmps74
  go_wp2_with fail
  go_region_held3 (fun W => W.cell? ⟨g, i * 2, none⟩ = some (.int .i64 a.1) ∧ W.cell? ⟨g, i * 2 + 1, none⟩ = some (.int .i64 a.2) ∧ W.cell? ⟨g, j * 2, none⟩ = some (.int .i64 b.1) ∧ W.cell? ⟨g, j * 2 + 1, none⟩ = some (.int .i64 b.2))
    (first | exact ⟨i0, i1, j0, j1⟩ | exact ⟨old_cell _ i0, old_cell _ i1, old_cell _ j0, old_cell _ j1⟩)
    (first | (go_at_call 77; with_reducible refine (cmp_any _ _ _).mono ?_; rintro x wn ⟨rfl, rfl⟩) | (go_at_call 76; refine (or_any (cmpI a.2 b.2) (cmpI a.1 b.1) V.heap.size ((V.alloc (.cells #[.int .i64 (cmpI a.2 b.2), .int .i64 (cmpI a.1 b.1)] 3)).drew) (Bk.new V 3 #[.int .i64 (cmpI a.2 b.2), .int .i64 (cmpI a.1 b.1)])).mono ?_; rintro x wn ⟨rfl, rfl⟩))
  all_goals
    go_wp2_with fail
    go_ret
    exact ⟨rfl, (below_alloc _ _).drew⟩

theorem dRow_set : ∀ (L : List Dl) (k : Nat) (d : Dl), k < L.length → ((dRow L).set (k * 2) (.int .i64 d.1)).set (k * 2 + 1) (.int .i64 d.2) = dRow (L.set k d)
  | [], _, _, h => by cases h
  | a :: L, 0, d, _ => rfl
  | a :: L, k + 1, d, h => by
    have ih := dRow_set L k d (by simpa using h)
    rw [show (k + 1) * 2 = k * 2 + 1 + 1 by omega]
    show (Value.int .i64 a.1 :: Value.int .i64 a.2 :: ((dRow L).set (k * 2) _).set (k * 2 + 1) _) = _
    rw [ih]
    rfl
/-- One deadline stored anew. -/
abbrev put2 (V : World) (g k : Nat) (d : Dl) : World := (V.setCell ⟨g, k * 2, none⟩ (.int .i64 d.1)).setCell ⟨g, k * 2 + 1, none⟩ (.int .i64 d.2)
theorem row_put {V : World} {p g cap : Nat} {L : List Dl} (h : Row V p (.slice (some ⟨g, 0, none⟩) L.length cap) L) {k : Nat} (hk : k < L.length) (d : Dl) : Row (put2 V g k d) p (.slice (some ⟨g, 0, none⟩) L.length cap) (L.set k d) := by
  have hl := h.1
  rcases h.2 with ⟨e, _⟩ | ⟨g', cap', cur, e, hb, hg, hc, hm, hs, ht⟩
  · cases e
  · cases e
    have h1 := heap_setCell_same V g (k * 2) cur 77 (.int .i64 d.1) hg
    have h2 := heap_setCell_same (V.setCell ⟨g, k * 2, none⟩ (.int .i64 d.1)) g (k * 2 + 1) _ 77 (.int .i64 d.2) h1
    refine ⟨by rw [dRow_len], .inr ⟨g, cap, _, by rw [List.length_set], hb, h2, by rw [List.length_set]; exact hc, hm, by simpa using hs, ?_⟩⟩
    rw [← dRow_set L k d hk, ← ht]
    simp [List.length_set, List.take_set]
theorem grown_set {V : World} {q i : Nat} {v : Value} : V.grownBy (V.setCell ⟨q, i, none⟩ v) (some q) := by
  refine ⟨rfl, rfl, rfl, by simp, fun j _ hj => heap_setCell_other V ⟨q, i, none⟩ j v (fun e => hj (by rw [e]))⟩
theorem grown_trans {V V' V'' : World} {q : Nat} (h : V.grownBy V' (some q)) (k : V'.grownBy V'' (some q)) : V.grownBy V'' (some q) :=
  ⟨k.os.trans h.os, k.tape.trans h.tape, k.output.trans h.output, Nat.le_trans h.size k.size, fun i hi hne => (k.block i (Nat.lt_of_lt_of_le hi h.size) hne).trans (h.block i hi hne)⟩
theorem grown_put {V : World} {g k : Nat} {d : Dl} : V.grownBy (put2 V g k d) (some g) := grown_trans grown_set grown_set
theorem grown_drew {V V' : World} {q : Option Nat} (h : V.grownBy V' q) : V.grownBy V'.drew q := ⟨h.os, h.tape, h.output, h.size, h.block⟩
set_option maxRecDepth 100000 in
set_option maxHeartbeats 4000000 in
theorem swap_ne {V : World} {p g cap : Nat} {L : List Dl} (h : Row V p (.slice (some ⟨g, 0, none⟩) L.length cap) L) (i j : Nat) (hi : i < L.length) (hj : j < L.length) (_hm : L.length ≤ 1000) (hij : i ≠ j) :
    Calls Try.prog 75 #[.slice (some ⟨g, 0, none⟩) L.length cap, .int .i64 (i : Int), .int .i64 (j : Int)] V fun x V' => (∃ u, x = .returned u) ∧ Row V' p (.slice (some ⟨g, 0, none⟩) L.length cap) (sw L i j) ∧ V.grownBy V' (some g) := by
  obtain ⟨g', cap', e, hg, i0, i1, fz, -, -⟩ := row_at h hi
  cases e
  obtain ⟨g', cap', e, -, j0, j1, -, -, -⟩ := row_at h hj
  cases e
  replace h := Lib.hid h
  generalize ha : nt L i = a at *
  generalize hb : nt L j = b at *
  replace ha := Lib.hid ha
  replace hb := Lib.hid hb
  have i2 : (0 : Int) ≤ (i : Int) := by omega
  have i3 : (i : Int) < (L.length : Int) := by omega
  have j2 : (0 : Int) ≤ (j : Int) := by omega
  have j3 : (j : Int) < (L.length : Int) := by omega
  have n0 : i * 2 ≠ j * 2 := by omega
  have n1 : i * 2 ≠ j * 2 + 1 := by omega
  have n2 : i * 2 + 1 ≠ j * 2 := by omega
  have f0 := fz (i * 2)
  have f1 := fz (i * 2 + 1)
  have f2 := fz (j * 2)
  have f3 := fz (j * 2 + 1)
  go_enter Try.func75, Try.ntmps75
  go_wp2_with fail
  go_region
  go_wp2_with fail
  go_end0
  have r1 := row_put h.out hi b
  have r2 := row_put (L := L.set i b) (by rw [List.length_set]; exact r1) (k := j) (by rw [List.length_set]; exact hj) a
  rw [List.length_set] at r2
  have e : sw L i j = (L.set i b).set j a := by unfold sw; rw [ha.out, hb.out]
  rw [e]
  exact ⟨⟨_, rfl⟩, r2, grown_drew (grown_trans grown_put grown_put)⟩
set_option maxRecDepth 100000 in
set_option maxHeartbeats 4000000 in
theorem swap_eq {V : World} {p g cap : Nat} {L : List Dl} (h : Row V p (.slice (some ⟨g, 0, none⟩) L.length cap) L) (i : Nat) (hi : i < L.length) (_hm : L.length ≤ 1000) :
    Calls Try.prog 75 #[.slice (some ⟨g, 0, none⟩) L.length cap, .int .i64 (i : Int), .int .i64 (i : Int)] V fun x V' => (∃ u, x = .returned u) ∧ Row V' p (.slice (some ⟨g, 0, none⟩) L.length cap) (sw L i i) ∧ V.grownBy V' (some g) := by
  obtain ⟨g', cap', e, hg, i0, i1, fz, -, -⟩ := row_at h hi
  cases e
  replace h := Lib.hid h
  generalize ha : nt L i = a at *
  replace ha := Lib.hid ha
  have i2 : (0 : Int) ≤ (i : Int) := by omega
  have i3 : (i : Int) < (L.length : Int) := by omega
  have f0 := fz (i * 2)
  have f1 := fz (i * 2 + 1)
  go_enter Try.func75, Try.ntmps75
  go_wp2_with fail
  go_region
  all_goals
    go_wp2_with fail
    go_end0
    have r1 := row_put h.out hi a
    have r2 := row_put (L := L.set i a) (by rw [List.length_set]; exact r1) (k := i) (by rw [List.length_set]; exact hi) a
    rw [List.length_set] at r2
    have e : sw L i i = (L.set i a).set i a := by unfold sw; rw [ha.out]
    rw [e]
    exact ⟨⟨_, rfl⟩, r2, grown_drew (grown_trans grown_put grown_put)⟩
theorem swap_any {V : World} {p g cap : Nat} {L : List Dl} (h : Row V p (.slice (some ⟨g, 0, none⟩) L.length cap) L) (i j : Nat) (hi : i < L.length) (hj : j < L.length) (hm : L.length ≤ 1000) :
    Calls Try.prog 75 #[.slice (some ⟨g, 0, none⟩) L.length cap, .int .i64 (i : Int), .int .i64 (j : Int)] V fun x V' => (∃ u, x = .returned u) ∧ Row V' p (.slice (some ⟨g, 0, none⟩) L.length cap) (sw L i j) ∧ V.grownBy V' (some g) := by
  by_cases e : i = j
  · subst e; exact swap_eq h i hi hm
  · exact swap_ne h i j hi hj hm e
end Go.Proofs.Ytinbaepligploaa
