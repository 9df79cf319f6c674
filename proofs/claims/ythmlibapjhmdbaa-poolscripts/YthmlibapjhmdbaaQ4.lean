/- A pool: isOwner, isEmpty, Of. -/
import Derived.Test.YthmlibapjhmdbaaQ3
namespace Go.Proofs.Ythmlibapjhmdbaa
open Go.RowKit Go.Shelf Go.Maps

attribute [local go_sem] eq33 eq40
def isOwn (n : Int) : Bool := decide (0 ≤ n) && decide (n ≤ 1099511627776)

set_option maxRecDepth 100000 in
set_option maxHeartbeats 400000 in
theorem isOwner_any (n : Int) (w : World) : Calls Try.prog 45 #[.int .i64 n] w fun e w' => e = .returned (.bool (isOwn n)) ∧ w = w' := by
  unfold isOwn
  by_cases h : 0 ≤ n
  · have t0 : decide (0 ≤ n) = true := by simpa using h
    go_enter Try.func45, Try.ntmps45
    go_wp2_with fail
    go_ret
    exact ⟨by rw [t0]; rfl, rfl⟩
  · have t0 : decide (0 ≤ n) = false := by simpa using h
    go_enter Try.func45, Try.ntmps45
    go_wp2_with fail
    go_ret
    exact ⟨by first | rfl | (rw [t0]; rfl), rfl⟩

set_option maxRecDepth 100000 in
set_option maxHeartbeats 400000 in
theorem isEmpty_any (a0 a1 a2 a3 : Nat) (w : World) : Calls Try.prog 48 #[.agg #[.int .u64 a0, .int .u64 a1, .int .u64 a2, .int .u64 a3]] w fun e w' => e = .returned (.bool ((a0 : Int) == 0 && (a1 : Int) == 0 && (a2 : Int) == 0 && (a3 : Int) == 0)) ∧ Below w.heap.size w w' := by
  have hb := (Below.refl _ w).alloc (Nat.le_refl _) (.cells #[.int .u64 a0, .int .u64 a1, .int .u64 a2, .int .u64 a3] 40)
  go_enter Try.func48, Try.ntmps48
  go_wp2_with fail
  go_ret
  exact ⟨rfl, hb⟩

set_option maxRecDepth 100000 in
set_option maxHeartbeats 1000000 in
theorem of_walk (p b : Nat) (n : Int) (a0 a1 a2 a3 : Nat) (t : Bool) (w : World) (c2 : w.cell? ⟨p, 2, none⟩ = some (.map (some b))) (hp : p < w.heap.size)
    (hl : ∀ V, Below w.heap.size w V → (Instr.lookup 65 (.map (some b)) (.int .i64 n) false).run Try.prog V = .ok (.agg #[.int .u64 a0, .int .u64 a1, .int .u64 a2, .int .u64 a3, .bool t]) V) :
    Calls Try.prog 18 #[.pointer (some ⟨p, 0, none⟩), .int .i64 n] w fun e w' => e = .returned (.tuple #[.agg #[.int .u64 a0, .int .u64 a1, .int .u64 a2, .int .u64 a3], .bool t]) ∧ Below w.heap.size w w' := by
  have hb0 := (Below.refl _ w).alloc (Nat.le_refl _) (.cells #[.int .u64 0, .int .u64 0, .int .u64 0, .int .u64 0] 40)
  have r0 := Row.new w .u64 40 Mk.zero #[.int .u64 0, .int .u64 0, .int .u64 0, .int .u64 0] rfl
  have hl1 := hl _ hb0
  have c3 := (hb0.cell (p := ⟨p, 2, none⟩) hp).trans c2
  clear hl
  have j0 := Bk.new (w.alloc (.cells #[.int .u64 0, .int .u64 0, .int .u64 0, .int .u64 0] 40)) 78 #[.int .u64 a0, .int .u64 a1, .int .u64 a2, .int .u64 a3, .bool t]
  replace r0 := r0.alloc (.cells #[.int .u64 a0, .int .u64 a1, .int .u64 a2, .int .u64 a3, .bool t] 78)
  replace hb0 := hb0.alloc (by simp) (.cells #[.int .u64 a0, .int .u64 a1, .int .u64 a2, .int .u64 a3, .bool t] 78)
  simp only [size_alloc] at j0
  go_enter Try.func18, Try.ntmps18
  go_wp2_with fail
  clear hl1 c3
  generalize (w.alloc (.cells #[.int .u64 0, .int .u64 0, .int .u64 0, .int .u64 0] 40)).alloc (.cells #[.int .u64 a0, .int .u64 a1, .int .u64 a2, .int .u64 a3, .bool t] 78) = W at *
  have q0 := j0.cell 0 _ rfl
  have q1 := j0.cell 1 _ rfl
  have q2 := j0.cell 2 _ rfl
  have q3 := j0.cell 3 _ rfl
  have q4 := j0.cell 4 _ rfl
  have z0 := r0.cell 0 (by simp [Mk.zero])
  have z1 := r0.cell 1 (by simp [Mk.zero])
  have z2 := r0.cell 2 (by simp [Mk.zero])
  have z3 := r0.cell 3 (by simp [Mk.zero])
  have f0 := r0.frozen 0
  have f1 := r0.frozen 1
  have f2 := r0.frozen 2
  have f3 := r0.frozen 3
  go_region
  have r9 : Row .u64 40 _ w.heap.size [a0, a1, a2, a3] := ((((r0.set 0 a0).set 1 a1).set 2 a2).set 3 a3).drew
  have hb9 := ((((hb0.setCell (p := ⟨w.heap.size, 0, none⟩) (by simp) (.int .u64 (a0 : Nat))).setCell (p := ⟨w.heap.size, 1, none⟩) (by simp) (.int .u64 (a1 : Nat))).setCell (p := ⟨w.heap.size, 2, none⟩) (by simp) (.int .u64 (a2 : Nat))).setCell (p := ⟨w.heap.size, 3, none⟩) (by simp) (.int .u64 (a3 : Nat))).drew
  have hz : (Try.prog.info? 40).map (·.size) = some [a0, a1, a2, a3].length := info33
  go_wp2_with fail
  exact bodyPost_ret (results_row_tmp rfl _ _ w.heap.size .u64 40 _ _ rfl r9 Try.underlying40 rfl hz) rfl ⟨rfl, hb9⟩
theorem PoolAt.look_below {w : World} {p b k s q : Nat} {g : Int → Option Sh} (h : PoolAt w p b k s q g) {n : Int} (hn : (Lit.int .i64 n).wf = true) (V : World) (hb : Below w.heap.size w V) :
    (Instr.lookup 65 (.map (some b)) (.int .i64 n) false).run Try.prog V = .ok (shV ((g n).getD Sh.none)) V := ((h.next hb).look hn).2
/-- What Of tells. -/
theorem ofOwner_any {w : World} {p b k s q : Nat} {g : Int → Option Sh} (h : PoolAt w p b k s q g) {n : Int} (hn : (Lit.int .i64 n).wf = true) :
    Calls Try.prog 18 #[.pointer (some ⟨p, 0, none⟩), .int .i64 n] w fun e w' => e = .returned (.tuple #[.agg (vs .u64 ((g n).getD Sh.none).m), .bool ((g n).getD Sh.none).t]) ∧ Below w.heap.size w w' := by
  have := of_walk p b n _ _ _ _ _ w h.cells.2.2 h.blk.lt (fun V hb => h.look_below hn V hb)
  rw [show vs .u64 ((g n).getD Sh.none).m = #[.int .u64 (Mk.nth ((g n).getD Sh.none).m 0 : Nat), .int .u64 (Mk.nth ((g n).getD Sh.none).m 1 : Nat), .int .u64 (Mk.nth ((g n).getD Sh.none).m 2 : Nat), .int .u64 (Mk.nth ((g n).getD Sh.none).m 3 : Nat)] from by
    conv => lhs; rw [Mk.len4 ((g n).getD Sh.none).ok.1]
    rfl]
  exact this
end Go.Proofs.Ythmlibapjhmdbaa
