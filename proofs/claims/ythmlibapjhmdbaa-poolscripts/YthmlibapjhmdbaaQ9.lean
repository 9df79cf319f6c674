/- A pool: Take, refused. -/
import Derived.Test.YthmlibapjhmdbaaQ8
namespace Go.Proofs.Ythmlibapjhmdbaa
open Go.RowKit Go.Shelf Go.Maps

set_option maxRecDepth 100000 in
set_option maxHeartbeats 1000000 in
theorem take_none {w : World} {p b k s q : Nat} {g : Int → Option Sh} (h : PoolAt w p b k s q g) {n : Int} (hn : (Lit.int .i64 n).wf = true) (a0 a1 a2 a3 : Nat)
    (KO : ∀ V : World, Calls Try.prog 45 #[.int .i64 n] V fun e w' => e = .returned (.bool false) ∧ V = w') :
    Calls Try.prog 27 #[.pointer (some ⟨p, 0, none⟩), .int .i64 n, .agg #[.int .u64 a0, .int .u64 a1, .int .u64 a2, .int .u64 a3]] w fun e w' => e = .returned (.int .i64 1) ∧ Below w.heap.size w w' := by
  have hb0 := (Below.refl _ w).alloc (Nat.le_refl _) (.cells #[.int .u64 a0, .int .u64 a1, .int .u64 a2, .int .u64 a3] 40)
  have j0 := Bk.new w 40 #[.int .u64 a0, .int .u64 a1, .int .u64 a2, .int .u64 a3]
  replace h := h.next hb0
  have HN := Lib.hid hn
  clear hn
  replace KO := Lib.hid KO
  go_enter Try.func27, Try.ntmps27
  go_wp2_with fail
  refine (KO.out _).mono ?_
  rintro e w1 ⟨rfl, rfl⟩
  go_wp2_with fail
  go_ret
  exact ⟨rfl, hb0⟩

set_option maxRecDepth 100000 in
set_option maxHeartbeats 1000000 in
theorem take_empty {w : World} {p b k s q : Nat} {g : Int → Option Sh} (h : PoolAt w p b k s q g) {n : Int} (hn : (Lit.int .i64 n).wf = true) (a0 a1 a2 a3 : Nat)
    (KO : ∀ V : World, Calls Try.prog 45 #[.int .i64 n] V fun e w' => e = .returned (.bool true) ∧ V = w')
    (KE : ∀ V : World, Calls Try.prog 48 #[.agg #[.int .u64 a0, .int .u64 a1, .int .u64 a2, .int .u64 a3]] V fun e w' => e = .returned (.bool true) ∧ Below V.heap.size V w') :
    Calls Try.prog 27 #[.pointer (some ⟨p, 0, none⟩), .int .i64 n, .agg #[.int .u64 a0, .int .u64 a1, .int .u64 a2, .int .u64 a3]] w fun e w' => e = .returned (.int .i64 1) ∧ Below w.heap.size w w' := by
  have hb0 := (Below.refl _ w).alloc (Nat.le_refl _) (.cells #[.int .u64 a0, .int .u64 a1, .int .u64 a2, .int .u64 a3] 40)
  have j0 := Bk.new w 40 #[.int .u64 a0, .int .u64 a1, .int .u64 a2, .int .u64 a3]
  replace h := h.next hb0
  have HN := Lib.hid hn
  clear hn
  replace KO := Lib.hid KO; replace KE := Lib.hid KE
  go_enter Try.func27, Try.ntmps27
  go_wp2_with fail
  refine (KO.out _).mono ?_
  rintro e w1 ⟨rfl, rfl⟩
  go_wp2_with fail
  refine (KE.out _).mono ?_
  rintro e w2 ⟨rfl, hb⟩
  replace hb0 := bmore hb0 hb; replace j0 := j0.next hb; replace h := h.next hb; clear hb
  go_wp2_with fail
  go_ret
  exact ⟨rfl, hb0⟩

set_option maxRecDepth 100000 in
set_option maxHeartbeats 1000000 in
theorem take_state {w : World} {p b k s q : Nat} {g : Int → Option Sh} (h : PoolAt w p b k s q g) {n : Int} (hn : (Lit.int .i64 n).wf = true) (a0 a1 a2 a3 : Nat)
    (hg : (g n).isSome = true)
    (KO : ∀ V : World, Calls Try.prog 45 #[.int .i64 n] V fun e w' => e = .returned (.bool true) ∧ V = w')
    (KE : ∀ V : World, Calls Try.prog 48 #[.agg #[.int .u64 a0, .int .u64 a1, .int .u64 a2, .int .u64 a3]] V fun e w' => e = .returned (.bool false) ∧ Below V.heap.size V w') :
    Calls Try.prog 27 #[.pointer (some ⟨p, 0, none⟩), .int .i64 n, .agg #[.int .u64 a0, .int .u64 a1, .int .u64 a2, .int .u64 a3]] w fun e w' => e = .returned (.int .i64 14) ∧ Below w.heap.size w w' := by
  have hb0 := (Below.refl _ w).alloc (Nat.le_refl _) (.cells #[.int .u64 a0, .int .u64 a1, .int .u64 a2, .int .u64 a3] 40)
  have j0 := Bk.new w 40 #[.int .u64 a0, .int .u64 a1, .int .u64 a2, .int .u64 a3]
  replace h := h.next hb0
  have HN := Lib.hid hn
  clear hn
  replace KO := Lib.hid KO; replace KE := Lib.hid KE; have HG := Lib.hid hg; clear hg
  go_enter Try.func27, Try.ntmps27
  go_wp2_with fail
  refine (KO.out _).mono ?_
  rintro e w1 ⟨rfl, rfl⟩
  go_wp2_with fail
  refine (KE.out _).mono ?_
  rintro e w2 ⟨rfl, hb⟩
  replace hb0 := bmore hb0 hb; replace j0 := j0.next hb; replace h := h.next hb; clear hb
  go_wp2_with fail
  have KH := has_any h HN.out
  rw [HG.out] at KH
  refine KH.mono ?_
  rintro e w3 ⟨rfl, hb⟩
  replace hb0 := bmore hb0 hb; replace j0 := j0.next hb; replace h := h.next hb; clear hb KH
  go_wp2_with fail
  go_ret
  exact ⟨rfl, hb0⟩

set_option maxRecDepth 100000 in
set_option maxHeartbeats 1000000 in
theorem take_cores {w : World} {p b k s q : Nat} {g : Int → Option Sh} (h : PoolAt w p b k s q g) {n : Int} (hn : (Lit.int .i64 n).wf = true) (a0 a1 a2 a3 : Nat)
    (f0 f1 f2 f3 d0 d1 d2 d3 : Nat) (hg : (g n).isSome = false)
    (KO : ∀ V : World, Calls Try.prog 45 #[.int .i64 n] V fun e w' => e = .returned (.bool true) ∧ V = w')
    (KE : ∀ V : World, Calls Try.prog 48 #[.agg #[.int .u64 a0, .int .u64 a1, .int .u64 a2, .int .u64 a3]] V fun e w' => e = .returned (.bool false) ∧ Below V.heap.size V w')
    (KF : ∀ V : World, PoolAt V p b k s q g → Calls Try.prog 13 #[.pointer (some ⟨p, 0, none⟩)] V fun e w' => e = .returned (.agg #[.int .u64 f0, .int .u64 f1, .int .u64 f2, .int .u64 f3]) ∧ Below V.heap.size V w')
    (KM : ∀ V : World, Calls Try.prog 24 #[.agg #[.int .u64 a0, .int .u64 a1, .int .u64 a2, .int .u64 a3], .agg #[.int .u64 f0, .int .u64 f1, .int .u64 f2, .int .u64 f3]] V fun e w' => e = .returned (.agg #[.int .u64 d0, .int .u64 d1, .int .u64 d2, .int .u64 d3]) ∧ Below V.heap.size V w')
    (KE2 : ∀ V : World, Calls Try.prog 48 #[.agg #[.int .u64 d0, .int .u64 d1, .int .u64 d2, .int .u64 d3]] V fun e w' => e = .returned (.bool false) ∧ Below V.heap.size V w') :
    Calls Try.prog 27 #[.pointer (some ⟨p, 0, none⟩), .int .i64 n, .agg #[.int .u64 a0, .int .u64 a1, .int .u64 a2, .int .u64 a3]] w fun e w' => e = .returned (.int .i64 12) ∧ Below w.heap.size w w' := by
  have hb0 := (Below.refl _ w).alloc (Nat.le_refl _) (.cells #[.int .u64 a0, .int .u64 a1, .int .u64 a2, .int .u64 a3] 40)
  have j0 := Bk.new w 40 #[.int .u64 a0, .int .u64 a1, .int .u64 a2, .int .u64 a3]
  replace h := h.next hb0
  have HN := Lib.hid hn
  clear hn
  replace KO := Lib.hid KO; replace KE := Lib.hid KE; replace KF := Lib.hid KF; replace KM := Lib.hid KM; replace KE2 := Lib.hid KE2; have HG := Lib.hid hg; clear hg
  go_enter Try.func27, Try.ntmps27
  go_wp2_with fail
  refine (KO.out _).mono ?_
  rintro e w1 ⟨rfl, rfl⟩
  go_wp2_with fail
  refine (KE.out _).mono ?_
  rintro e w2 ⟨rfl, hb⟩
  replace hb0 := bmore hb0 hb; replace j0 := j0.next hb; replace h := h.next hb; clear hb
  go_wp2_with fail
  have KH := has_any h HN.out
  rw [HG.out] at KH
  refine KH.mono ?_
  rintro e w3 ⟨rfl, hb⟩
  replace hb0 := bmore hb0 hb; replace j0 := j0.next hb; replace h := h.next hb; clear hb KH
  go_wp2_with fail
  have A0 := In.cell (B := w3.heap.size) j0.lt (j0.cell 0 _ rfl)
  have A1 := In.cell (B := w3.heap.size) j0.lt (j0.cell 1 _ rfl)
  have A2 := In.cell (B := w3.heap.size) j0.lt (j0.cell 2 _ rfl)
  have A3 := In.cell (B := w3.heap.size) j0.lt (j0.cell 3 _ rfl)
  have hIn := inNonempty w3.heap.size w3
  have KFW := Lib.hid (fun i : In w3.heap.size w3 => KF.out i.val (h.next i.ok))
  refine region_in w3.heap.size (by kernel_rfl) (by kernel_rfl) ?_
  repeat (go_big_quiet_step (first | (go_at_call 13; with_reducible exact Calls.in_of (Nat.le_refl _) (KFW.out _)) | (go_at_call 24; with_reducible exact Calls.in_of (Nat.le_refl _) (KM.out _)) | (go_at_call 48; with_reducible exact Calls.in_of (Nat.le_refl _) (KE2.out _))))
  refine wpQuiet_nil ?_
  intro w4 hb4
  clear A0 A1 A2 A3 hIn
  go_wp2_with fail
  go_ret
  exact ⟨rfl, bmore hb0 hb4⟩
end Go.Proofs.Ythmlibapjhmdbaa
