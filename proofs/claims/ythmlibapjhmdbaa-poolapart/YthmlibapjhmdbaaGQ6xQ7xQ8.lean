/- A pool: Commit. -/
import Derived.Test.YthmlibapjhmdbaaGQ3xQ4xQ5
namespace Go.Proofs.Ythmlibapjhmdbaa
open Go.RowKit Go.Shelf Go.Maps

theorem PoolAt.hid {w w2 : World} {p b k s q : Nat} {g : Int → Option Sh} (h : PoolAt w p b k s q g) (e : Hid (w2 = w.drew)) : PoolAt w2 p b k s q g := by
  rw [e.out]
  obtain ⟨D, h1, h2⟩ := h.own
  exact ⟨h.blk, D, h1.drew, h2⟩
theorem PoolAt.setCell {w : World} {p b k s q : Nat} {g : Int → Option Sh} (h : PoolAt w p b k s q g) {a : Addr} (hp : p ≠ a.block) (hb : b ≠ a.block) (v : Value) : PoolAt (w.setCell a v) p b k s q g := by
  obtain ⟨D, h1, h2⟩ := h.own
  exact ⟨(heap_setCell_other w a p v hp).trans h.blk, D, h1.setCell hb v, h2⟩

set_option maxRecDepth 100000 in
set_option maxHeartbeats 1000000 in
theorem commit_no (p b : Nat) (n : Int) (a0 a1 a2 a3 : Int) (t r : Bool) (w : World) (c2 : w.cell? ⟨p, 2, none⟩ = some (.map (some b))) (hrt : r = false ∨ (r = true ∧ t = true))
    (hl : (Instr.lookup 65 (.map (some b)) (.int .i64 n) true).run Try.prog w = .ok (.tuple #[.agg #[.int .u64 a0, .int .u64 a1, .int .u64 a2, .int .u64 a3, .bool t], .bool r]) w) :
    Calls Try.prog 28 #[.pointer (some ⟨p, 0, none⟩), .int .i64 n] w fun e w' => e = .returned (.int .i64 14) ∧ Below w.heap.size w w' := by
  have hb := (Below.refl _ w).alloc (Nat.le_refl _) (.cells #[.int .u64 a0, .int .u64 a1, .int .u64 a2, .int .u64 a3, .bool t] 78)
  rcases hrt with rfl | ⟨rfl, rfl⟩
  · go_enter Try.func28, Try.ntmps28
    go_wp2_with fail
    go_ret
    exact ⟨rfl, hb⟩
  · go_enter Try.func28, Try.ntmps28
    go_wp2_with fail
    go_ret
    exact ⟨rfl, hb⟩

set_option maxRecDepth 100000 in
set_option maxHeartbeats 1000000 in
theorem commit_ok {w : World} {p b k s q : Nat} {g : Int → Option Sh} (h : PoolAt w p b k s q g) {n : Int} (hn : (Lit.int .i64 n).wf = true) {c : Sh} (hg : g n = some c) (ht : c.t = false) (hk : k < 1000000) :
    Calls Try.prog 28 #[.pointer (some ⟨p, 0, none⟩), .int .i64 n] w fun e w' => e = .returned (.int .i64 0) ∧ Turned w w' p b (k + 1) s q (fun m => if m = n then some ⟨c.m, true, c.ok⟩ else g m) := by
  have hl := (h.look hn).1
  rw [hg] at hl
  have hl2 : (Instr.lookup 65 (.map (some b)) (.int .i64 n) true).run Try.prog w = .ok (.tuple #[.agg #[.int .u64 (Mk.nth c.m 0 : Nat), .int .u64 (Mk.nth c.m 1 : Nat), .int .u64 (Mk.nth c.m 2 : Nat), .int .u64 (Mk.nth c.m 3 : Nat), .bool false], .bool true]) w := by
    rw [hl]
    show _ = _
    simp only [Option.getD_some, shV, ht, Option.isSome_some]
  have HN := Lib.hid hn
  have hpl := h.blk.lt
  have hbl : b < w.heap.size := by
    obtain ⟨D, ho, _⟩ := h.own
    exact ho.lt
  have c2 := h.cells.2.2
  have hx : Below w.heap.size w (w.alloc (.cells #[.int .u64 (Mk.nth c.m 0 : Nat), .int .u64 (Mk.nth c.m 1 : Nat), .int .u64 (Mk.nth c.m 2 : Nat), .int .u64 (Mk.nth c.m 3 : Nat), .bool true] 78)) := (Below.refl _ _).alloc (Nat.le_refl _) _
  have j0 := Bk.new w 78 #[.int .u64 (Mk.nth c.m 0 : Nat), .int .u64 (Mk.nth c.m 1 : Nat), .int .u64 (Mk.nth c.m 2 : Nat), .int .u64 (Mk.nth c.m 3 : Nat), .bool true]
  have h1 := h.next hx
  clear hl hn hg ht
  go_enter Try.func28, Try.ntmps28
  go_wp2_with fail
  refine region_tail 6 (by kernel_rfl) (by kernel_rfl) (fun w5 hw5 => ?_)
  have h5 := h1.hid hw5
  have j5 : Bk w5 w.heap.size 78 #[.int .u64 (Mk.nth c.m 0 : Nat), .int .u64 (Mk.nth c.m 1 : Nat), .int .u64 (Mk.nth c.m 2 : Nat), .int .u64 (Mk.nth c.m 3 : Nat), .bool true] := by
    rw [hw5.out]
    exact j0
  have hg5 : w.grownBy w5 Option.none := by
    rw [hw5.out]
    exact only_of_below hx.drew
  obtain ⟨D, ho, hS⟩ := h5.own
  have e2 := h5.cells.2.2
  have q0 := j5.cell 0 _ rfl
  have q1 := j5.cell 1 _ rfl
  have q2 := j5.cell 2 _ rfl
  have q3 := j5.cell 3 _ rfl
  have q4 := j5.cell 4 _ rfl
  have hne := h5.ne
  have hbk := h5.blk
  clear hl2 c2 hx j0 h1 hw5
  simp only [List.take_succ_cons, List.take_zero, List.drop_succ_cons, List.drop_zero]
  repeat still_step
  refine wpStill_nil ?_
  go_wp2_with (at_mapUpdate; refine wpList_mapUpdate_own _ rfl _ _ _ 65 rfl 3 78 law Try.underlying65 _ b k D rfl ho (by unfold maxLen; omega) _ _ _ rfl rfl (key_of HN.out) (shD ⟨c.m, true, c.ok⟩) [] (shE_mk ⟨c.m, true, c.ok⟩) ?_; intro w6 ho6 hg6)
  go_ret
  exact ⟨rfl, ⟨hbk.grown hg6 hne, _, ho6, hS.put n _ ho6.isMap⟩, (hg5.but _).trans hg6⟩
end Go.Proofs.Ythmlibapjhmdbaa
/- A pool: Free tells one mask. -/
namespace Go.Proofs.Ythmlibapjhmdbaa
open Go.RowKit Go.Shelf Go.Maps

open Classical in
/-- The cores that nobody has. -/
noncomputable def freeM (all : List Nat) (g : Int → Option Sh) : List Nat :=
  Mk.ofL ((List.range 256).filter fun d => decide (Mk.hasB all d = true ∧ ∀ n sh, g n = some sh → Mk.hasB sh.m d = false))
theorem freeM_lt {p : Nat → Bool} : ∀ x ∈ (List.range 256).filter p, x < 256 := fun x hx => by simpa using (List.mem_filter.1 hx).1
theorem freeM_W4 (all : List Nat) (g : Int → Option Sh) : Mk.W4 (freeM all g) := Mk.ofL_W4 freeM_lt
theorem freeM_has (all : List Nat) (g : Int → Option Sh) {d : Nat} (hd : d < 256) : Mk.hasB (freeM all g) d = true ↔ Mk.hasB all d = true ∧ ∀ n sh, g n = some sh → Mk.hasB sh.m d = false := by
  unfold freeM
  rw [Mk.has_ofL freeM_lt]
  simp [hd]
theorem free_is {all m : List Nat} {g : Int → Option Sh} (hm : Mk.W4 m) (h : Left all m g (fun _ => false)) : m = freeM all g :=
  Mk.ext hm (freeM_W4 all g) fun d hd => by
    rw [Bool.eq_iff_iff, h d hd, freeM_has all g hd]
    exact ⟨fun h => ⟨h.1, fun n sh hn => h.2 n sh hn rfl⟩, fun h => ⟨h.1, fun n sh hn _ => h.2 n sh hn⟩⟩
theorem free_fix {w : World} {p b k s q : Nat} {g : Int → Option Sh} (h : PoolAt w p b k s q g) (hL : LOk s q) :
    Calls Try.prog 13 #[.pointer (some ⟨p, 0, none⟩)] w fun e w' => e = .returned (.agg (vs .u64 (freeM (Mk.ofL (List.range (s * q))) g))) ∧ Below w.heap.size w w' := by
  refine (free_any h hL).mono ?_
  rintro e w' ⟨m, rfl, hm, hl, hb⟩
  exact ⟨by rw [free_is hm hl], hb⟩
end Go.Proofs.Ythmlibapjhmdbaa
/- A pool: Take. -/
namespace Go.Proofs.Ythmlibapjhmdbaa
open Go.RowKit Go.Shelf Go.Maps

theorem inNonempty (B : Nat) (w : World) : Nonempty (In B w) := ⟨⟨w, Below.refl _ _⟩⟩

set_option maxRecDepth 100000 in
set_option maxHeartbeats 1000000 in
theorem take_walk {w : World} {p b k s q : Nat} {g : Int → Option Sh} (h : PoolAt w p b k s q g) {n : Int} (hn : (Lit.int .i64 n).wf = true) (hk : k < 1000000) (c : Sh) (a0 a1 a2 a3 f0 f1 f2 f3 d0 d1 d2 d3 : Nat) (hc : c.m = [a0, a1, a2, a3]) (ht : c.t = true) (hg : (g n).isSome = false)
    (KO : ∀ V : World, Calls Try.prog 45 #[.int .i64 n] V fun e w' => e = .returned (.bool true) ∧ V = w')
    (KE : ∀ V : World, Calls Try.prog 48 #[.agg #[.int .u64 a0, .int .u64 a1, .int .u64 a2, .int .u64 a3]] V fun e w' => e = .returned (.bool false) ∧ Below V.heap.size V w')
    (KF : ∀ V : World, PoolAt V p b k s q g → Calls Try.prog 13 #[.pointer (some ⟨p, 0, none⟩)] V fun e w' => e = .returned (.agg #[.int .u64 f0, .int .u64 f1, .int .u64 f2, .int .u64 f3]) ∧ Below V.heap.size V w')
    (KM : ∀ V : World, Calls Try.prog 24 #[.agg #[.int .u64 a0, .int .u64 a1, .int .u64 a2, .int .u64 a3], .agg #[.int .u64 f0, .int .u64 f1, .int .u64 f2, .int .u64 f3]] V fun e w' => e = .returned (.agg #[.int .u64 d0, .int .u64 d1, .int .u64 d2, .int .u64 d3]) ∧ Below V.heap.size V w')
    (KE2 : ∀ V : World, Calls Try.prog 48 #[.agg #[.int .u64 d0, .int .u64 d1, .int .u64 d2, .int .u64 d3]] V fun e w' => e = .returned (.bool true) ∧ Below V.heap.size V w') :
    Calls Try.prog 27 #[.pointer (some ⟨p, 0, none⟩), .int .i64 n, .agg #[.int .u64 a0, .int .u64 a1, .int .u64 a2, .int .u64 a3]] w fun e w' => e = .returned (.int .i64 0) ∧ Turned w w' p b (k + 1) s q (fun m => if m = n then some c else g m) := by
  replace KO := Lib.hid KO; replace KE := Lib.hid KE; replace KF := Lib.hid KF; replace KM := Lib.hid KM; replace KE2 := Lib.hid KE2
  have HN := Lib.hid hn
  have HG := Lib.hid hg
  have HSh : Hid (shV c = .agg #[.int .u64 a0, .int .u64 a1, .int .u64 a2, .int .u64 a3, .bool true]) := by
    show _ = _
    unfold shV
    rw [hc, ht]
    rfl
  clear hn hg hc ht
  have hb0 := (Below.refl _ w).alloc (Nat.le_refl _) (.cells #[.int .u64 a0, .int .u64 a1, .int .u64 a2, .int .u64 a3] 40)
  have j0 := Bk.new w 40 #[.int .u64 a0, .int .u64 a1, .int .u64 a2, .int .u64 a3]
  replace h := h.next hb0
  go_enter Try.func27, Try.ntmps27
  go_wp2_with fail
  refine (KO.out _).mono ?_
  rintro e w1 ⟨rfl, rfl⟩
  go_wp2_with fail
  refine (KE.out _).mono ?_
  rintro e w2 ⟨rfl, hb⟩
  replace hb0 := bmore hb0 hb; replace j0 := j0.next hb; replace h := h.next hb; clear hb
  go_wp2_with fail
  have KH := has_any h HN.out
  rw [HG.out] at KH
  refine KH.mono ?_
  rintro e w3 ⟨rfl, hb⟩
  replace hb0 := bmore hb0 hb; replace j0 := j0.next hb; replace h := h.next hb; clear hb KH
  go_wp2_with fail
  have A0 := In.cell (B := w3.heap.size) j0.lt (j0.cell 0 _ rfl)
  have A1 := In.cell (B := w3.heap.size) j0.lt (j0.cell 1 _ rfl)
  have A2 := In.cell (B := w3.heap.size) j0.lt (j0.cell 2 _ rfl)
  have A3 := In.cell (B := w3.heap.size) j0.lt (j0.cell 3 _ rfl)
  have hIn := inNonempty w3.heap.size w3
  have KFW := Lib.hid (fun i : In w3.heap.size w3 => KF.out i.val (h.next i.ok))
  refine region_in w3.heap.size (by kernel_rfl) (by kernel_rfl) ?_
  repeat (go_big_quiet_step (first | (go_at_call 13; with_reducible exact Calls.in_of (Nat.le_refl _) (KFW.out _)) | (go_at_call 24; with_reducible exact Calls.in_of (Nat.le_refl _) (KM.out _)) | (go_at_call 48; with_reducible exact Calls.in_of (Nat.le_refl _) (KE2.out _))))
  refine wpQuiet_nil ?_
  intro w4 hb4
  replace hb0 := bmore hb0 hb4; replace j0 := j0.next hb4; replace h := h.next hb4
  clear hb4 A0 A1 A2 A3 hIn KFW KF KM KE KE2 KO
  go_wp2_with fail
  refine region_tail 7 (by kernel_rfl) (by kernel_rfl) (fun w5 hw5 => ?_)
  have h5 := h.hid hw5
  have j5 : Bk w5 w.heap.size 40 #[.int .u64 a0, .int .u64 a1, .int .u64 a2, .int .u64 a3] := by rw [hw5.out]; exact j0
  have hb5 := below_hid hb0 hw5
  obtain ⟨D, ho, hS⟩ := h5.own
  have e2 := h5.cells.2.2
  have q0 := j5.cell 0 _ rfl
  have q1 := j5.cell 1 _ rfl
  have q2 := j5.cell 2 _ rfl
  have q3 := j5.cell 3 _ rfl
  have hne := h5.ne
  have hbk := h5.blk
  clear j0 h hw5 hb0
  simp only [List.take_succ_cons, List.take_zero, List.drop_succ_cons, List.drop_zero]
  repeat still_step
  refine wpStill_nil ?_
  go_wp2_with (at_mapUpdate; refine wpList_mapUpdate_own _ rfl _ _ _ 65 rfl 3 78 law Try.underlying65 _ b k D rfl ho (by unfold maxLen; omega) _ _ _ rfl rfl (key_of HN.out) (shD c) [] (by have := shE_mk c; rw [HSh.out] at this; exact this) ?_; intro w6 ho6 hg6)
  go_ret
  exact ⟨rfl, ⟨hbk.grown hg6 hne, _, ho6, hS.put n _ ho6.isMap⟩, ((only_of_below hb5).but _).trans hg6⟩
end Go.Proofs.Ythmlibapjhmdbaa
