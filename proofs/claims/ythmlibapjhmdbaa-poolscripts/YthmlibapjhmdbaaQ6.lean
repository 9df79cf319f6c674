/- A pool: Commit. -/
import Derived.Test.YthmlibapjhmdbaaQ5
namespace Go.Proofs.Ythmlibapjhmdbaa
open Go.RowKit Go.Shelf Go.Maps

theorem PoolAt.hid {w w2 : World} {p b k s q : Nat} {g : Int → Option Sh} (h : PoolAt w p b k s q g) (e : Hid (w2 = w.drew)) : PoolAt w2 p b k s q g := by
  rw [e.out]
  obtain ⟨D, h1, h2⟩ := h.own
  exact ⟨h.blk, D, h1.drew, h2⟩
theorem PoolAt.setCell {w : World} {p b k s q : Nat} {g : Int → Option Sh} (h : PoolAt w p b k s q g) {a : Addr} (hp : p ≠ a.block) (hb : b ≠ a.block) (v : Value) : PoolAt (w.setCell a v) p b k s q g := by
  obtain ⟨D, h1, h2⟩ := h.own
  exact ⟨(heap_setCell_other w a p v hp).trans h.blk, D, h1.setCell hb v, h2⟩

set_option maxRecDepth 100000 in
set_option maxHeartbeats 1000000 in
theorem commit_no (p b : Nat) (n : Int) (a0 a1 a2 a3 : Int) (t r : Bool) (w : World) (c2 : w.cell? ⟨p, 2, none⟩ = some (.map (some b))) (hrt : r = false ∨ (r = true ∧ t = true))
    (hl : (Instr.lookup 65 (.map (some b)) (.int .i64 n) true).run Try.prog w = .ok (.tuple #[.agg #[.int .u64 a0, .int .u64 a1, .int .u64 a2, .int .u64 a3, .bool t], .bool r]) w) :
    Calls Try.prog 28 #[.pointer (some ⟨p, 0, none⟩), .int .i64 n] w fun e w' => e = .returned (.int .i64 14) ∧ Below w.heap.size w w' := by
  have hb := (Below.refl _ w).alloc (Nat.le_refl _) (.cells #[.int .u64 a0, .int .u64 a1, .int .u64 a2, .int .u64 a3, .bool t] 78)
  rcases hrt with rfl | ⟨rfl, rfl⟩
  · go_enter Try.func28, Try.ntmps28
    go_wp2_with fail
    go_ret
    exact ⟨rfl, hb⟩
  · go_enter Try.func28, Try.ntmps28
    go_wp2_with fail
    go_ret
    exact ⟨rfl, hb⟩

set_option maxRecDepth 100000 in
set_option maxHeartbeats 1000000 in
theorem commit_ok {w : World} {p b k s q : Nat} {g : Int → Option Sh} (h : PoolAt w p b k s q g) {n : Int} (hn : (Lit.int .i64 n).wf = true) {c : Sh} (hg : g n = some c) (ht : c.t = false) (hk : k < 1000000) :
    Calls Try.prog 28 #[.pointer (some ⟨p, 0, none⟩), .int .i64 n] w fun e w' => e = .returned (.int .i64 0) ∧ Turned w w' p b (k + 1) s q (fun m => if m = n then some ⟨c.m, true, c.ok⟩ else g m) := by
  have hl := (h.look hn).1
  rw [hg] at hl
  have hl2 : (Instr.lookup 65 (.map (some b)) (.int .i64 n) true).run Try.prog w = .ok (.tuple #[.agg #[.int .u64 (Mk.nth c.m 0 : Nat), .int .u64 (Mk.nth c.m 1 : Nat), .int .u64 (Mk.nth c.m 2 : Nat), .int .u64 (Mk.nth c.m 3 : Nat), .bool false], .bool true]) w := by
    rw [hl]
    show _ = _
    simp only [Option.getD_some, shV, ht, Option.isSome_some]
  have HN := Lib.hid hn
  have hpl := h.blk.lt
  have hbl : b < w.heap.size := by
    obtain ⟨D, ho, _⟩ := h.own
    exact ho.lt
  have c2 := h.cells.2.2
  have hx : Below w.heap.size w (w.alloc (.cells #[.int .u64 (Mk.nth c.m 0 : Nat), .int .u64 (Mk.nth c.m 1 : Nat), .int .u64 (Mk.nth c.m 2 : Nat), .int .u64 (Mk.nth c.m 3 : Nat), .bool true] 78)) := (Below.refl _ _).alloc (Nat.le_refl _) _
  have j0 := Bk.new w 78 #[.int .u64 (Mk.nth c.m 0 : Nat), .int .u64 (Mk.nth c.m 1 : Nat), .int .u64 (Mk.nth c.m 2 : Nat), .int .u64 (Mk.nth c.m 3 : Nat), .bool true]
  have h1 := h.next hx
  clear hl hn hg ht
  go_enter Try.func28, Try.ntmps28
  go_wp2_with fail
  refine region_tail 6 (by kernel_rfl) (by kernel_rfl) (fun w5 hw5 => ?_)
  have h5 := h1.hid hw5
  have j5 : Bk w5 w.heap.size 78 #[.int .u64 (Mk.nth c.m 0 : Nat), .int .u64 (Mk.nth c.m 1 : Nat), .int .u64 (Mk.nth c.m 2 : Nat), .int .u64 (Mk.nth c.m 3 : Nat), .bool true] := by
    rw [hw5.out]
    exact j0
  have hg5 : w.grownBy w5 Option.none := by
    rw [hw5.out]
    exact only_of_below hx.drew
  obtain ⟨D, ho, hS⟩ := h5.own
  have e2 := h5.cells.2.2
  have q0 := j5.cell 0 _ rfl
  have q1 := j5.cell 1 _ rfl
  have q2 := j5.cell 2 _ rfl
  have q3 := j5.cell 3 _ rfl
  have q4 := j5.cell 4 _ rfl
  have hne := h5.ne
  have hbk := h5.blk
  clear hl2 c2 hx j0 h1 hw5
  simp only [List.take_succ_cons, List.take_zero, List.drop_succ_cons, List.drop_zero]
  repeat still_step
  refine wpStill_nil ?_
  go_wp2_with (at_mapUpdate; refine wpList_mapUpdate_own _ rfl _ _ _ 65 rfl 3 78 law Try.underlying65 _ b k D rfl ho (by unfold maxLen; omega) _ _ _ rfl rfl (key_of HN.out) (shD ⟨c.m, true, c.ok⟩) [] (shE_mk ⟨c.m, true, c.ok⟩) ?_; intro w6 ho6 hg6)
  go_ret
  exact ⟨rfl, ⟨hbk.grown hg6 hne, _, ho6, hS.put n _ ho6.isMap⟩, (hg5.but _).trans hg6⟩
end Go.Proofs.Ythmlibapjhmdbaa
