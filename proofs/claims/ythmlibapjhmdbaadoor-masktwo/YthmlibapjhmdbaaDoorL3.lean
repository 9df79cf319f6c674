/- The law MaskTwo, walked. -/
import Derived.Test.YthmlibapjhmdbaaDoorR3
namespace Go.Proofs.YthmlibapjhmdbaaDoor
open Go.RowKit Go.Shelf

attribute [local go_sem] eq33 eq40

set_option maxRecDepth 100000 in
set_option maxHeartbeats 4000000 in
theorem maskTwo_walk (x0 x1 x2 x3 y0 y1 y2 y3 p0 p1 p2 p3 q0 q1 q2 q3 u0 u1 u2 u3 l0 l1 l2 l3 : Nat) (n er : Int) (w : World) (G : Glob w)
    (K22 : ∀ V : World, Glob V → Calls Tryd.prog 22 #[.agg #[.int .u64 x0, .int .u64 x1, .int .u64 x2, .int .u64 x3], .int .i64 n] V (fun e w' => e = .returned (.tuple #[.agg #[.int .u64 l0, .int .u64 l1, .int .u64 l2, .int .u64 l3], .int .i64 er]) ∧ Below V.heap.size V w'))
    (K23 : ∀ V : World, Calls Tryd.prog 23 #[.agg #[.int .u64 x0, .int .u64 x1, .int .u64 x2, .int .u64 x3], .int .i64 n] V (fun e w' => e = .returned (.tuple #[.agg #[.int .u64 l0, .int .u64 l1, .int .u64 l2, .int .u64 l3], .int .i64 er]) ∧ Below V.heap.size V w'))
    (Kand : ∀ V : World, Calls Tryd.prog 24 #[.agg #[.int .u64 x0, .int .u64 x1, .int .u64 x2, .int .u64 x3], .agg #[.int .u64 y0, .int .u64 y1, .int .u64 y2, .int .u64 y3]] V (fun e w' => e = .returned (.agg #[.int .u64 p0, .int .u64 p1, .int .u64 p2, .int .u64 p3]) ∧ Below V.heap.size V w'))
    (Kor : ∀ V : World, Calls Tryd.prog 26 #[.agg #[.int .u64 x0, .int .u64 x1, .int .u64 x2, .int .u64 x3], .agg #[.int .u64 y0, .int .u64 y1, .int .u64 y2, .int .u64 y3]] V (fun e w' => e = .returned (.agg #[.int .u64 q0, .int .u64 q1, .int .u64 q2, .int .u64 q3]) ∧ Below V.heap.size V w'))
    (Kmin : ∀ V : World, Calls Tryd.prog 28 #[.agg #[.int .u64 x0, .int .u64 x1, .int .u64 x2, .int .u64 x3], .agg #[.int .u64 y0, .int .u64 y1, .int .u64 y2, .int .u64 y3]] V (fun e w' => e = .returned (.agg #[.int .u64 u0, .int .u64 u1, .int .u64 u2, .int .u64 u3]) ∧ Below V.heap.size V w'))
    (Krand : ∀ V : World, Calls Tryd.prog 25 #[.agg #[.int .u64 x0, .int .u64 x1, .int .u64 x2, .int .u64 x3], .agg #[.int .u64 y0, .int .u64 y1, .int .u64 y2, .int .u64 y3]] V (fun e w' => e = .returned (.agg #[.int .u64 p0, .int .u64 p1, .int .u64 p2, .int .u64 p3]) ∧ Below V.heap.size V w'))
    (Kror : ∀ V : World, Calls Tryd.prog 27 #[.agg #[.int .u64 x0, .int .u64 x1, .int .u64 x2, .int .u64 x3], .agg #[.int .u64 y0, .int .u64 y1, .int .u64 y2, .int .u64 y3]] V (fun e w' => e = .returned (.agg #[.int .u64 q0, .int .u64 q1, .int .u64 q2, .int .u64 q3]) ∧ Below V.heap.size V w'))
    (Krmin : ∀ V : World, Calls Tryd.prog 29 #[.agg #[.int .u64 x0, .int .u64 x1, .int .u64 x2, .int .u64 x3], .agg #[.int .u64 y0, .int .u64 y1, .int .u64 y2, .int .u64 y3]] V (fun e w' => e = .returned (.agg #[.int .u64 u0, .int .u64 u1, .int .u64 u2, .int .u64 u3]) ∧ Below V.heap.size V w'))
    (KL : ∀ V : World, Glob V → Calls Tryd.prog 9 #[] V (fun e w' => e = .returned (.bool true) ∧ Below V.heap.size V w')) :
    Calls Tryd.prog 4 #[.agg #[.int .u64 x0, .int .u64 x1, .int .u64 x2, .int .u64 x3], .agg #[.int .u64 y0, .int .u64 y1, .int .u64 y2, .int .u64 y3], .int .i64 n] w fun e w' => e = .returned (.bool true) ∧ Below w.heap.size w w' := by
  replace KL := Lib.hid KL; replace K22 := Lib.hid K22; replace K23 := Lib.hid K23
  replace Kand := Lib.hid Kand
  replace Kor := Lib.hid Kor
  replace Kmin := Lib.hid Kmin
  replace Krand := Lib.hid Krand
  replace Kror := Lib.hid Kror
  replace Krmin := Lib.hid Krmin
  have hb0 := (((Below.refl _ w).alloc (Nat.le_refl _) (.cells #[.int .u64 x0, .int .u64 x1, .int .u64 x2, .int .u64 x3] 24)).alloc (by simp) (.cells #[.int .u64 y0, .int .u64 y1, .int .u64 y2, .int .u64 y3] 24))
  have k0 := (Bk.new w 24 #[.int .u64 x0, .int .u64 x1, .int .u64 x2, .int .u64 x3]).alloc (.cells #[.int .u64 y0, .int .u64 y1, .int .u64 y2, .int .u64 y3] 24)
  have k1 := Bk.new (w.alloc (.cells #[.int .u64 x0, .int .u64 x1, .int .u64 x2, .int .u64 x3] 24)) 24 #[.int .u64 y0, .int .u64 y1, .int .u64 y2, .int .u64 y3]
  simp only [size_alloc] at k1
  go_enter Tryd.func4, Tryd.ntmps4
  go_wp2_with fail
  refine (own_any _ _ _ _ _).mono ?_
  rintro e w1 ⟨rfl, hb⟩
  replace hb0 := bmore hb0 hb; replace k0 := k0.next hb; replace k1 := k1.next hb; clear hb
  have hx : Below w1.heap.size w1 (w1.alloc (.cells #[.int .u64 x0, .int .u64 x1, .int .u64 x2, .int .u64 x3] 27)) := (Below.refl _ _).alloc (Nat.le_refl _) _
  have j0 := Bk.new w1 27 #[.int .u64 x0, .int .u64 x1, .int .u64 x2, .int .u64 x3]
  replace hb0 := bmore hb0 hx; replace k0 := k0.next hx; replace k1 := k1.next hx; clear hx
  obtain ⟨r0, r1, r2, r3⟩ := k1.four
  go_wp2_with fail
  clear r0 r1 r2 r3
  refine (own_any _ _ _ _ _).mono ?_
  rintro e w2 ⟨rfl, hb⟩
  replace hb0 := bmore hb0 hb; replace k0 := k0.next hb; replace k1 := k1.next hb; replace j0 := j0.next hb; clear hb
  have hx : Below w2.heap.size w2 (w2.alloc (.cells #[.int .u64 y0, .int .u64 y1, .int .u64 y2, .int .u64 y3] 27)) := (Below.refl _ _).alloc (Nat.le_refl _) _
  have j1 := Bk.new w2 27 #[.int .u64 y0, .int .u64 y1, .int .u64 y2, .int .u64 y3]
  replace hb0 := bmore hb0 hx; replace k0 := k0.next hx; replace k1 := k1.next hx; replace j0 := j0.next hx; clear hx
  obtain ⟨r0, r1, r2, r3⟩ := j0.four
  go_wp2_with fail
  clear r0 r1 r2 r3
  refine (K22.out _ (G.next hb0)).mono ?_
  rintro e w3 ⟨rfl, hb⟩
  replace hb0 := bmore hb0 hb; replace k0 := k0.next hb; replace k1 := k1.next hb; replace j0 := j0.next hb; replace j1 := j1.next hb; clear hb
  have hx : Below w3.heap.size w3 (w3.alloc (.cells #[.int .u64 l0, .int .u64 l1, .int .u64 l2, .int .u64 l3] 27)) := (Below.refl _ _).alloc (Nat.le_refl _) _
  have j2 := Bk.new w3 27 #[.int .u64 l0, .int .u64 l1, .int .u64 l2, .int .u64 l3]
  replace hb0 := bmore hb0 hx; replace k0 := k0.next hx; replace k1 := k1.next hx; replace j0 := j0.next hx; replace j1 := j1.next hx; clear hx
  obtain ⟨r0, r1, r2, r3⟩ := k0.four
  go_wp2_with fail
  clear r0 r1 r2 r3
  refine (K23.out _).mono ?_
  rintro e w4 ⟨rfl, hb⟩
  replace hb0 := bmore hb0 hb; replace k0 := k0.next hb; replace k1 := k1.next hb; replace j0 := j0.next hb; replace j1 := j1.next hb; replace j2 := j2.next hb; clear hb
  have hx : Below w4.heap.size w4 (w4.alloc (.cells #[.int .u64 l0, .int .u64 l1, .int .u64 l2, .int .u64 l3] 24)) := (Below.refl _ _).alloc (Nat.le_refl _) _
  have j3 := Bk.new w4 24 #[.int .u64 l0, .int .u64 l1, .int .u64 l2, .int .u64 l3]
  replace hb0 := bmore hb0 hx; replace k0 := k0.next hx; replace k1 := k1.next hx; replace j0 := j0.next hx; replace j1 := j1.next hx; replace j2 := j2.next hx; clear hx
  go_wp2_with fail
  generalize w4.alloc (.cells #[.int .u64 l0, .int .u64 l1, .int .u64 l2, .int .u64 l3] 24) = W at *
  have A0 := In.cell (B := W.heap.size) k0.lt (k0.cell 0 _ rfl)
  have A1 := In.cell (B := W.heap.size) k0.lt (k0.cell 1 _ rfl)
  have A2 := In.cell (B := W.heap.size) k0.lt (k0.cell 2 _ rfl)
  have A3 := In.cell (B := W.heap.size) k0.lt (k0.cell 3 _ rfl)
  have B0 := In.cell (B := W.heap.size) k1.lt (k1.cell 0 _ rfl)
  have B1 := In.cell (B := W.heap.size) k1.lt (k1.cell 1 _ rfl)
  have B2 := In.cell (B := W.heap.size) k1.lt (k1.cell 2 _ rfl)
  have B3 := In.cell (B := W.heap.size) k1.lt (k1.cell 3 _ rfl)
  have C0 := In.cell (B := W.heap.size) j0.lt (j0.cell 0 _ rfl)
  have C1 := In.cell (B := W.heap.size) j0.lt (j0.cell 1 _ rfl)
  have C2 := In.cell (B := W.heap.size) j0.lt (j0.cell 2 _ rfl)
  have C3 := In.cell (B := W.heap.size) j0.lt (j0.cell 3 _ rfl)
  have D0 := In.cell (B := W.heap.size) j1.lt (j1.cell 0 _ rfl)
  have D1 := In.cell (B := W.heap.size) j1.lt (j1.cell 1 _ rfl)
  have D2 := In.cell (B := W.heap.size) j1.lt (j1.cell 2 _ rfl)
  have D3 := In.cell (B := W.heap.size) j1.lt (j1.cell 3 _ rfl)
  have E0 := In.cell (B := W.heap.size) j2.lt (j2.cell 0 _ rfl)
  have E1 := In.cell (B := W.heap.size) j2.lt (j2.cell 1 _ rfl)
  have E2 := In.cell (B := W.heap.size) j2.lt (j2.cell 2 _ rfl)
  have E3 := In.cell (B := W.heap.size) j2.lt (j2.cell 3 _ rfl)
  have F0 := In.cell (B := W.heap.size) j3.lt (j3.cell 0 _ rfl)
  have F1 := In.cell (B := W.heap.size) j3.lt (j3.cell 1 _ rfl)
  have F2 := In.cell (B := W.heap.size) j3.lt (j3.cell 2 _ rfl)
  have F3 := In.cell (B := W.heap.size) j3.lt (j3.cell 3 _ rfl)
  have hIn := inNonempty W.heap.size W
  have KLW := Lib.hid (fun n : In W.heap.size W => KL.out n.val ((G.next hb0).next n.ok))
  refine region_in W.heap.size (by kernel_rfl) (by kernel_rfl) ?_
  repeat (go_big_quiet_step (first | (go_at_call 24; with_reducible exact Calls.in_of (Nat.le_refl _) (Kand.out _)) | (go_at_call 26; with_reducible exact Calls.in_of (Nat.le_refl _) (Kor.out _)) | (go_at_call 28; with_reducible exact Calls.in_of (Nat.le_refl _) (Kmin.out _)) | (go_at_call 25; with_reducible exact Calls.in_of (Nat.le_refl _) (Krand.out _)) | (go_at_call 27; with_reducible exact Calls.in_of (Nat.le_refl _) (Kror.out _)) | (go_at_call 29; with_reducible exact Calls.in_of (Nat.le_refl _) (Krmin.out _)) | (go_at_call 21; with_reducible exact Calls.in_of (Nat.le_refl _) (told_any _ _ _ _ _)) | (go_at_call 9; with_reducible exact Calls.in_of (Nat.le_refl _) (KLW.out _))))
  refine wpQuiet_nil ?_
  intro w7 hb7
  clear A0 A1 A2 A3 B0 B1 B2 B3 C0 C1 C2 C3 D0 D1 D2 D3 E0 E1 E2 E3 F0 F1 F2 F3
  go_wp2_with fail
  go_ret
  exact ⟨rfl, bmore hb0 hb7⟩

theorem low_W4 (m : List Nat) (n : Nat) : Mk.W4 (lowOut m n).1 := by
  unfold lowOut
  split
  · exact Mk.ofL_W4 (nums_lt _)
  · exact Mk.W4.zero
theorem maskTwo_any (x0 x1 x2 x3 y0 y1 y2 y3 : Nat) (n : Int) (w : World) (G : Glob w) (hx : Mk.W4 [x0, x1, x2, x3]) (hy : Mk.W4 [y0, y1, y2, y3]) (hn : n < 9223372036854775808) :
    Calls Tryd.prog 4 #[.agg #[.int .u64 x0, .int .u64 x1, .int .u64 x2, .int .u64 x3], .agg #[.int .u64 y0, .int .u64 y1, .int .u64 y2, .int .u64 y3], .int .i64 n] w fun e w' => e = .returned (.bool true) ∧ Below w.heap.size w w' := by
  have fin := fun (l0 l1 l2 l3 : Nat) (er : Int) K22 K23 => maskTwo_walk x0 x1 x2 x3 y0 y1 y2 y3 (Nat.land x0 y0) (Nat.land x1 y1) (Nat.land x2 y2) (Nat.land x3 y3) (Nat.lor x0 y0) (Nat.lor x1 y1) (Nat.lor x2 y2) (Nat.lor x3 y3) (andN x0 y0) (andN x1 y1) (andN x2 y2) (andN x3 y3) l0 l1 l2 l3 n er w G K22 K23
    (fun V => and_any [x0, x1, x2, x3] [y0, y1, y2, y3] V hx hy) (fun V => or_any [x0, x1, x2, x3] [y0, y1, y2, y3] V hx hy) (fun V => minus_any [x0, x1, x2, x3] [y0, y1, y2, y3] V hx hy)
    (fun V => rAnd_any x0 x1 x2 x3 y0 y1 y2 y3 V hx hy) (fun V => rOr_any x0 x1 x2 x3 y0 y1 y2 y3 V hx hy) (fun V => rMinus_any x0 x1 x2 x3 y0 y1 y2 y3 V hx hy) (fun V G => live_any V G)
  by_cases h0 : n < 0
  · exact fin 0 0 0 0 1 (fun V _ => lowest_neg x0 x1 x2 x3 n V h0) (fun V => rLowest_neg x0 x1 x2 x3 n V hx h0)
  · obtain ⟨k, rfl⟩ := Int.eq_ofNat_of_zero_le (show 0 ≤ n by omega)
    have h1 := fun V (G : Glob V) => lowest_nat x0 x1 x2 x3 k V hx G (by omega)
    have h2 := fun V => rLowest_nat x0 x1 x2 x3 k V hx
    obtain ⟨l0, l1, l2, l3, hl⟩ := (low_W4 [x0, x1, x2, x3] k).four
    rw [hl] at h1 h2
    exact fin l0 l1 l2 l3 _ h1 h2
end Go.Proofs.YthmlibapjhmdbaaDoor
