/- The law MaskLowest, walked. -/
import Derived.Test.YthmlibapjhmdbaaDoorW26
import Derived.Test.YthmlibapjhmdbaaDoorPl
namespace Go.Proofs.YthmlibapjhmdbaaDoor
open Go.RowKit Go.Shelf

attribute [local go_sem] eq33 eq40

set_option maxRecDepth 100000 in
set_option maxHeartbeats 1000000 in
theorem maskLowest_bad (x0 x1 x2 x3 c : Nat) (n er : Int) (w : World) (G : Glob w) (her : (er != 0) = true) (hn : n < 0 ∨ (0 ≤ n ∧ (c : Int) < n))
    (K22 : ∀ V : World, Glob V → Calls Tryd.prog 22 #[.agg #[.int .u64 x0, .int .u64 x1, .int .u64 x2, .int .u64 x3], .int .i64 n] V (fun e w' => e = .returned (.tuple #[.agg #[.int .u64 0, .int .u64 0, .int .u64 0, .int .u64 0], .int .i64 er]) ∧ Below V.heap.size V w'))
    (KC : ∀ V : World, Calls Tryd.prog 18 #[.agg #[.int .u64 x0, .int .u64 x1, .int .u64 x2, .int .u64 x3]] V (fun e w' => e = .returned (.int .i64 c) ∧ Below V.heap.size V w'))
    (KL : ∀ V : World, Glob V → Calls Tryd.prog 9 #[] V (fun e w' => e = .returned (.bool true) ∧ Below V.heap.size V w')) :
    Calls Tryd.prog 8 #[.agg #[.int .u64 x0, .int .u64 x1, .int .u64 x2, .int .u64 x3], .int .i64 n] w fun e w' => e = .returned (.bool true) ∧ Below w.heap.size w w' := by
  replace K22 := Lib.hid K22; replace KC := Lib.hid KC; replace KL := Lib.hid KL
  have hb0 := (Below.refl _ w).alloc (Nat.le_refl _) (.cells #[.int .u64 x0, .int .u64 x1, .int .u64 x2, .int .u64 x3] 24)
  go_enter Tryd.func8, Tryd.ntmps8
  go_wp2_with fail
  refine (own_any _ _ _ _ _).mono ?_
  rintro e w1 ⟨rfl, hb⟩
  replace hb0 := bmore hb0 hb; clear hb
  have hx : Below w1.heap.size w1 (w1.alloc (.cells #[.int .u64 x0, .int .u64 x1, .int .u64 x2, .int .u64 x3] 27)) := (Below.refl _ _).alloc (Nat.le_refl _) _
  have j0 := Bk.new w1 27 #[.int .u64 x0, .int .u64 x1, .int .u64 x2, .int .u64 x3]
  replace hb0 := bmore hb0 hx; clear hx
  go_wp2_with fail
  refine (K22.out _ (G.next hb0)).mono ?_
  rintro e w2 ⟨rfl, hb⟩
  replace hb0 := bmore hb0 hb; replace j0 := j0.next hb; clear hb
  have hx : Below w2.heap.size w2 (w2.alloc (.cells #[.int .u64 0, .int .u64 0, .int .u64 0, .int .u64 0] 27)) := (Below.refl _ _).alloc (Nat.le_refl _) _
  have j1 := Bk.new w2 27 #[.int .u64 0, .int .u64 0, .int .u64 0, .int .u64 0]
  replace hb0 := bmore hb0 hx; replace j0 := j0.next hx; clear hx
  obtain ⟨r0, r1, r2, r3⟩ := j0.four
  obtain ⟨s0, s1, s2, s3⟩ := j1.four
  rcases hn with hn | ⟨hn, hc⟩
  · have t0 : decide (n < 0) = true := by simpa using hn
    go_wp2_with fail
    refine (KL.out _ (G.next hb0)).mono ?_
    rintro e w3 ⟨rfl, hb⟩
    replace hb0 := bmore hb0 hb; clear hb
    go_wp2_with fail
    go_ret
    exact ⟨rfl, hb0⟩
  · have t0 : decide (n < 0) = false := by simpa using hn
    have t1 : decide ((c : Int) < n) = true := by simpa using hc
    go_wp2_with fail
    refine (KC.out _).mono ?_
    rintro e w3 ⟨rfl, hb⟩
    replace hb0 := bmore hb0 hb; replace j1 := j1.next hb; clear hb r0 r1 r2 r3 s0 s1 s2 s3
    obtain ⟨s0, s1, s2, s3⟩ := j1.four
    go_wp2_with fail
    refine (KL.out _ (G.next hb0)).mono ?_
    rintro e w4 ⟨rfl, hb⟩
    replace hb0 := bmore hb0 hb; clear hb
    go_wp2_with fail
    go_ret
    exact ⟨rfl, hb0⟩

theorem add_none (a : Addr) : a.add 0 = a := by
  unfold Addr.add
  split <;> simp_all
theorem In.nat {B : Nat} {w : World} {A : Addr} {xs : List Nat} (h : NatsAt w B (some A) xs) {k : Nat} (hk : k < xs.length) (n : In B w) : n.val.cell? (A.add k) = some (.int .i64 (Mk.nth xs k : Nat)) := by
  obtain ⟨ad, e, hb, hc⟩ := h.at_ hk
  cases e
  exact In.cell (by rw [block_add]; exact hb) hc n

set_option maxRecDepth 100000 in
set_option maxHeartbeats 1000000 in
theorem maskLowest_ok (x0 x1 x2 x3 l0 l1 l2 l3 d0 d1 d2 d3 na nb : Nat) (xs ys : List Nat) (w : World) (G : Glob w) (hxs : xs.length = na) (hys : ys.length = nb) (hna : na ≤ 256) (hnb : nb ≤ 256)
    (hlt : na = 0 ∨ (0 < na ∧ nb = 0) ∨ (0 < na ∧ 0 < nb ∧ Mk.nth xs (na - 1) < Mk.nth ys 0))
    (K22 : ∀ V : World, Glob V → Calls Tryd.prog 22 #[.agg #[.int .u64 x0, .int .u64 x1, .int .u64 x2, .int .u64 x3], .int .i64 na] V (fun e w' => e = .returned (.tuple #[.agg #[.int .u64 l0, .int .u64 l1, .int .u64 l2, .int .u64 l3], .int .i64 0]) ∧ Below V.heap.size V w'))
    (KLa : ∀ V : World, Glob V → Calls Tryd.prog 17 #[.agg #[.int .u64 l0, .int .u64 l1, .int .u64 l2, .int .u64 l3]] V (fun e w' => ∃ A ca, e = .returned (.slice A na ca) ∧ NatsAt w' w'.heap.size A xs ∧ Below V.heap.size V w'))
    (KM : ∀ V : World, Calls Tryd.prog 28 #[.agg #[.int .u64 x0, .int .u64 x1, .int .u64 x2, .int .u64 x3], .agg #[.int .u64 l0, .int .u64 l1, .int .u64 l2, .int .u64 l3]] V (fun e w' => e = .returned (.agg #[.int .u64 d0, .int .u64 d1, .int .u64 d2, .int .u64 d3]) ∧ Below V.heap.size V w'))
    (KLb : ∀ V : World, Glob V → Calls Tryd.prog 17 #[.agg #[.int .u64 d0, .int .u64 d1, .int .u64 d2, .int .u64 d3]] V (fun e w' => ∃ A ca, e = .returned (.slice A nb ca) ∧ NatsAt w' w'.heap.size A ys ∧ Below V.heap.size V w'))
    (KM2 : ∀ V : World, Calls Tryd.prog 28 #[.agg #[.int .u64 l0, .int .u64 l1, .int .u64 l2, .int .u64 l3], .agg #[.int .u64 x0, .int .u64 x1, .int .u64 x2, .int .u64 x3]] V (fun e w' => e = .returned (.agg #[.int .u64 0, .int .u64 0, .int .u64 0, .int .u64 0]) ∧ Below V.heap.size V w'))
    (KL : ∀ V : World, Glob V → Calls Tryd.prog 9 #[] V (fun e w' => e = .returned (.bool true) ∧ Below V.heap.size V w')) :
    Calls Tryd.prog 8 #[.agg #[.int .u64 x0, .int .u64 x1, .int .u64 x2, .int .u64 x3], .int .i64 na] w fun e w' => e = .returned (.bool true) ∧ Below w.heap.size w w' := by
  replace K22 := Lib.hid K22; replace KLa := Lib.hid KLa; replace KM := Lib.hid KM; replace KLb := Lib.hid KLb; replace KM2 := Lib.hid KM2; replace KL := Lib.hid KL
  replace hxs := Lib.hid hxs; replace hys := Lib.hid hys
  have hb0 := (Below.refl _ w).alloc (Nat.le_refl _) (.cells #[.int .u64 x0, .int .u64 x1, .int .u64 x2, .int .u64 x3] 24)
  go_enter Tryd.func8, Tryd.ntmps8
  go_wp2_with fail
  refine (own_any _ _ _ _ _).mono ?_
  rintro e w1 ⟨rfl, hb⟩
  replace hb0 := bmore hb0 hb; clear hb
  have hx : Below w1.heap.size w1 (w1.alloc (.cells #[.int .u64 x0, .int .u64 x1, .int .u64 x2, .int .u64 x3] 27)) := (Below.refl _ _).alloc (Nat.le_refl _) _
  have j0 := Bk.new w1 27 #[.int .u64 x0, .int .u64 x1, .int .u64 x2, .int .u64 x3]
  replace hb0 := bmore hb0 hx; clear hx
  go_wp2_with fail
  refine (K22.out _ (G.next hb0)).mono ?_
  rintro e w2 ⟨rfl, hb⟩
  replace hb0 := bmore hb0 hb; replace j0 := j0.next hb; clear hb
  have hx : Below w2.heap.size w2 (w2.alloc (.cells #[.int .u64 l0, .int .u64 l1, .int .u64 l2, .int .u64 l3] 27)) := (Below.refl _ _).alloc (Nat.le_refl _) _
  have j1 := Bk.new w2 27 #[.int .u64 l0, .int .u64 l1, .int .u64 l2, .int .u64 l3]
  replace hb0 := bmore hb0 hx; replace j0 := j0.next hx; clear hx
  obtain ⟨s0, s1, s2, s3⟩ := j1.four
  go_wp2_with fail
  clear s0 s1 s2 s3
  refine (KLa.out _ (G.next hb0)).mono ?_
  rintro e w3 ⟨A, ca, rfl, hA, hb⟩
  replace hb0 := bmore hb0 hb; replace j0 := j0.next hb; replace j1 := j1.next hb; clear hb
  obtain ⟨r0, r1, r2, r3⟩ := j0.four
  obtain ⟨s0, s1, s2, s3⟩ := j1.four
  go_wp2_with fail
  clear r0 r1 r2 r3 s0 s1 s2 s3
  refine (KM.out _).mono ?_
  rintro e w4 ⟨rfl, hb⟩
  replace hb0 := bmore hb0 hb; replace j0 := j0.next hb; replace j1 := j1.next hb; replace hA := (hA.below hb).more hb.size; clear hb
  go_wp2_with fail
  refine (KLb.out _ (G.next hb0)).mono ?_
  rintro e w5 ⟨B, cb, rfl, hB, hb⟩
  replace hb0 := bmore hb0 hb; replace j0 := j0.next hb; replace j1 := j1.next hb; replace hA := (hA.below hb).more hb.size; clear hb
  go_wp2_with fail
  have X0 := In.cell (B := w5.heap.size) j0.lt (j0.cell 0 _ rfl)
  have X1 := In.cell (B := w5.heap.size) j0.lt (j0.cell 1 _ rfl)
  have X2 := In.cell (B := w5.heap.size) j0.lt (j0.cell 2 _ rfl)
  have X3 := In.cell (B := w5.heap.size) j0.lt (j0.cell 3 _ rfl)
  have L0 := In.cell (B := w5.heap.size) j1.lt (j1.cell 0 _ rfl)
  have L1 := In.cell (B := w5.heap.size) j1.lt (j1.cell 1 _ rfl)
  have L2 := In.cell (B := w5.heap.size) j1.lt (j1.cell 2 _ rfl)
  have L3 := In.cell (B := w5.heap.size) j1.lt (j1.cell 3 _ rfl)
  have hIn := inNonempty w5.heap.size w5
  have KLW := Lib.hid (fun n : In w5.heap.size w5 => KL.out n.val ((G.next hb0).next n.ok))
  rcases hlt with rfl | ⟨h1, rfl⟩ | ⟨h1, h2, h3⟩
  · refine region_in w5.heap.size (by kernel_rfl) (by kernel_rfl) ?_
    repeat (go_big_quiet_step (first | (go_at_call 9; with_reducible exact Calls.in_of (Nat.le_refl _) (KLW.out _)) | (go_at_call 28; with_reducible exact Calls.in_of (Nat.le_refl _) (KM2.out _))))
    refine wpQuiet_nil ?_
    intro w7 hb7
    clear X0 X1 X2 X3 L0 L1 L2 L3
    go_wp2_with fail
    go_ret
    exact ⟨rfl, bmore hb0 hb7⟩
  · have t0 : ((na : Int) == 0) = false := by rw [beq_eq_false_iff_ne]; omega
    refine region_in w5.heap.size (by kernel_rfl) (by kernel_rfl) ?_
    repeat (go_big_quiet_step (first | (go_at_call 9; with_reducible exact Calls.in_of (Nat.le_refl _) (KLW.out _)) | (go_at_call 28; with_reducible exact Calls.in_of (Nat.le_refl _) (KM2.out _))))
    refine wpQuiet_nil ?_
    intro w7 hb7
    clear X0 X1 X2 X3 L0 L1 L2 L3
    go_wp2_with fail
    go_ret
    exact ⟨rfl, bmore hb0 hb7⟩
  · obtain ⟨k, rfl⟩ : ∃ k, na = k + 1 := ⟨na - 1, by omega⟩
    obtain ⟨j, rfl⟩ : ∃ j, nb = j + 1 := ⟨nb - 1, by omega⟩
    obtain ⟨ad, rfl, _, _⟩ := hA.at_ (k := 0) (by rw [hxs.out]; omega)
    obtain ⟨bd, rfl, _, _⟩ := hB.at_ (k := 0) (by rw [hys.out]; omega)
    have CA := In.nat hA (k := k) (by rw [hxs.out]; omega)
    have CB := In.nat hB (k := 0) (by rw [hys.out]; omega)
    rw [add_none] at CB
    have t0 : ((k : Int) + 1 == 0) = false := by rw [beq_eq_false_iff_ne]; omega
    have t1 : ((j : Int) + 1 == 0) = false := by rw [beq_eq_false_iff_ne]; omega
    rw [Nat.add_sub_cancel] at h3
    generalize Mk.nth xs k = p at *
    generalize Mk.nth ys 0 = q at *
    have t2 : decide ((p : Int) < (q : Int)) = true := by simpa using h3
    refine region_in w5.heap.size (by kernel_rfl) (by kernel_rfl) ?_
    repeat (go_big_quiet_step (first | (go_at_call 9; with_reducible exact Calls.in_of (Nat.le_refl _) (KLW.out _)) | (go_at_call 28; with_reducible exact Calls.in_of (Nat.le_refl _) (KM2.out _))))
    refine wpQuiet_nil ?_
    intro w7 hb7
    clear X0 X1 X2 X3 L0 L1 L2 L3
    go_wp2_with fail
    go_ret
    exact ⟨rfl, bmore hb0 hb7⟩

end Go.Proofs.YthmlibapjhmdbaaDoor
