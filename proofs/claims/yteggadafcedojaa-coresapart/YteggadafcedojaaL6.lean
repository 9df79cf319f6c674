/- The law CoresApart, walked. -/
import Derived.Test.YteggadafcedojaaW26
import Derived.Test.YteggadafcedojaaL5
namespace Go.Proofs.Yteggadafcedojaa
open Go.RowKit Go.Shelf

attribute [local go_sem] eq33 eq40

set_option maxRecDepth 100000 in
set_option maxHeartbeats 1000000 in
theorem coresApart_nil (s p a b c e r q d er : Int) (w : World) (her : (er != 0) = true)
    (h1 : ∀ W, Calls Try.prog 19 #[.agg #[.int .i64 s, .int .i64 p], .agg #[.int .u64 a, .int .u64 b, .int .u64 c, .int .u64 e, .int .i64 r, .int .i64 q, .int .i64 d]] W fun x w' => x = .returned (.tuple #[.slice none 0 0, .int .i64 er]) ∧ Below W.heap.size W w') :
    Calls Try.prog 5 #[.agg #[.int .i64 s, .int .i64 p], .agg #[.int .u64 a, .int .u64 b, .int .u64 c, .int .u64 e, .int .i64 r, .int .i64 q, .int .i64 d]] w fun x w' => x = .returned (.bool true) ∧ Below w.heap.size w w' := by
  have H1 := Lib.hid h1
  clear h1
  have hb0 := ((Below.refl _ w).alloc (Nat.le_refl _) (.cells #[.int .i64 s, .int .i64 p] 23)).alloc (by simp) (.cells #[.int .u64 a, .int .u64 b, .int .u64 c, .int .u64 e, .int .i64 r, .int .i64 q, .int .i64 d] 45)
  have k0 := (Bk.new w 23 #[.int .i64 s, .int .i64 p]).alloc (.cells #[.int .u64 a, .int .u64 b, .int .u64 c, .int .u64 e, .int .i64 r, .int .i64 q, .int .i64 d] 45)
  have k1 : Bk ((w.alloc (.cells #[.int .i64 s, .int .i64 p] 23)).alloc (.cells #[.int .u64 a, .int .u64 b, .int .u64 c, .int .u64 e, .int .i64 r, .int .i64 q, .int .i64 d] 45)) (w.heap.size + 1) 45 #[.int .u64 a, .int .u64 b, .int .u64 c, .int .u64 e, .int .i64 r, .int .i64 q, .int .i64 d] := by
    have := Bk.new (w.alloc (.cells #[.int .i64 s, .int .i64 p] 23)) 45 #[.int .u64 a, .int .u64 b, .int .u64 c, .int .u64 e, .int .i64 r, .int .i64 q, .int .i64 d]
    rw [size_alloc] at this
    exact this
  go_enter Try.func5, Try.ntmps5
  go_wp2_with fail
  generalize (w.alloc (.cells #[.int .i64 s, .int .i64 p] 23)).alloc (.cells #[.int .u64 a, .int .u64 b, .int .u64 c, .int .u64 e, .int .i64 r, .int .i64 q, .int .i64 d] 45) = W1 at *
  go_region_held3 (fun W => W.cell? ⟨w.heap.size, 0, none⟩ = some (.int .i64 s) ∧ W.cell? ⟨w.heap.size, 1, none⟩ = some (.int .i64 p) ∧ W.cell? ⟨w.heap.size + 1, 0, none⟩ = some (.int .u64 a) ∧ W.cell? ⟨w.heap.size + 1, 1, none⟩ = some (.int .u64 b) ∧ W.cell? ⟨w.heap.size + 1, 2, none⟩ = some (.int .u64 c) ∧ W.cell? ⟨w.heap.size + 1, 3, none⟩ = some (.int .u64 e) ∧ W.cell? ⟨w.heap.size + 1, 4, none⟩ = some (.int .i64 r) ∧ W.cell? ⟨w.heap.size + 1, 5, none⟩ = some (.int .i64 q) ∧ W.cell? ⟨w.heap.size + 1, 6, none⟩ = some (.int .i64 d))
    (first | exact cells9 k0 k1)
    (first | (go_at_call 9; refine (own_any _ _ _).mono ?_; rintro x wn ⟨rfl, hbn⟩; (first | replace hbn := undrew hbn | skip); replace hb0 := bmore hb0 hbn; replace k0 := k0.next hbn; replace k1 := k1.next hbn; clear hbn) | (go_at_call 20; refine (wish_any _ _ _ _ _ _ _ _).mono ?_; rintro x wn ⟨rfl, hbn⟩; (first | replace hbn := undrew hbn | skip); replace hb0 := bmore hb0 hbn; replace k0 := k0.next hbn; replace k1 := k1.next hbn; clear hbn) | (go_at_call 19; refine (H1.out _).mono ?_; rintro x wn ⟨rfl, hbn⟩; replace hb0 := bmore hb0 hbn; replace k0 := k0.next hbn; replace k1 := k1.next hbn; clear hbn))
  all_goals
    clear k0 k1
    go_wp2_with fail
    refine (live_any _).mono ?_
    rintro x w6 ⟨rfl, hb6⟩
    replace hb0 := bmore hb0 hb6
    clear hb6
    go_wp2_with fail
    go_ret
    exact ⟨rfl, hb0⟩

/-- What is known of the masks of the ranks. -/
structure Apart (msl : List (List Nat)) (U : Nat → List Nat) (F A : List Nat) (R Q : Nat) : Prop where
  len : msl.length = R
  zero : U 0 = Mk.zero
  four : ∀ k, Mk.W4 (U k)
  f4 : Mk.W4 F
  a4 : Mk.W4 A
  all : ∀ k m, msl[k]? = some m → Mk.W4 m ∧ Mk.cnt m = Q ∧ zw Nat.land m (U k) = Mk.zero ∧ zw andN m F = Mk.zero ∧ zw andN m A = Mk.zero ∧ zw Nat.lor (U k) m = U (k + 1)
  whole : Mk.cnt (U R) = R * Q

set_option maxRecDepth 100000 in
set_option maxHeartbeats 2000000 in
theorem coresApart_laid (s p d : Int) (a b c e r q : Nat) (msl : List (List Nat)) (U : Nat → List Nat) (A : List Nat) (w : World) (hl : r ≤ 32) (hq : q ≤ 256) (hA : Apart msl U [a, b, c, e] A r q)
    (h1 : ∀ W, Calls Try.prog 19 #[.agg #[.int .i64 s, .int .i64 p], .agg #[.int .u64 a, .int .u64 b, .int .u64 c, .int .u64 e, .int .i64 r, .int .i64 q, .int .i64 d]] W (Out W msl r 0))
    (h2 : ∀ W, Calls Try.prog 11 #[.agg #[.int .i64 s, .int .i64 p]] W fun x w' => x = .returned (.agg (vs .u64 A)) ∧ Below W.heap.size W w') :
    Calls Try.prog 5 #[.agg #[.int .i64 s, .int .i64 p], .agg #[.int .u64 a, .int .u64 b, .int .u64 c, .int .u64 e, .int .i64 r, .int .i64 q, .int .i64 d]] w fun x w' => x = .returned (.bool true) ∧ Below w.heap.size w w' := by
  have H1 := Lib.hid h1
  obtain ⟨A0, A1, A2, A3, rfl⟩ := Mk.W4.four hA.a4
  have H2 := Lib.hid (show ∀ W, Calls Try.prog 11 #[.agg #[.int .i64 s, .int .i64 p]] W fun x w' => x = .returned (.agg #[.int .u64 A0, .int .u64 A1, .int .u64 A2, .int .u64 A3]) ∧ Below W.heap.size W w' from h2)
  have HA := Lib.hid hA
  clear h1 h2 hA
  have hb0 := ((Below.refl _ w).alloc (Nat.le_refl _) (.cells #[.int .i64 s, .int .i64 p] 23)).alloc (by simp) (.cells #[.int .u64 a, .int .u64 b, .int .u64 c, .int .u64 e, .int .i64 r, .int .i64 q, .int .i64 d] 45)
  have k0 := (Bk.new w 23 #[.int .i64 s, .int .i64 p]).alloc (.cells #[.int .u64 a, .int .u64 b, .int .u64 c, .int .u64 e, .int .i64 r, .int .i64 q, .int .i64 d] 45)
  have k1 : Bk ((w.alloc (.cells #[.int .i64 s, .int .i64 p] 23)).alloc (.cells #[.int .u64 a, .int .u64 b, .int .u64 c, .int .u64 e, .int .i64 r, .int .i64 q, .int .i64 d] 45)) (w.heap.size + 1) 45 #[.int .u64 a, .int .u64 b, .int .u64 c, .int .u64 e, .int .i64 r, .int .i64 q, .int .i64 d] := by
    have := Bk.new (w.alloc (.cells #[.int .i64 s, .int .i64 p] 23)) 45 #[.int .u64 a, .int .u64 b, .int .u64 c, .int .u64 e, .int .i64 r, .int .i64 q, .int .i64 d]
    rw [size_alloc] at this
    exact this
  go_enter Try.func5, Try.ntmps5
  go_wp2_with fail
  generalize (w.alloc (.cells #[.int .i64 s, .int .i64 p] 23)).alloc (.cells #[.int .u64 a, .int .u64 b, .int .u64 c, .int .u64 e, .int .i64 r, .int .i64 q, .int .i64 d] 45) = W1 at *
  go_region_held3 (fun W => W.cell? ⟨w.heap.size, 0, none⟩ = some (.int .i64 s) ∧ W.cell? ⟨w.heap.size, 1, none⟩ = some (.int .i64 p) ∧ W.cell? ⟨w.heap.size + 1, 0, none⟩ = some (.int .u64 a) ∧ W.cell? ⟨w.heap.size + 1, 1, none⟩ = some (.int .u64 b) ∧ W.cell? ⟨w.heap.size + 1, 2, none⟩ = some (.int .u64 c) ∧ W.cell? ⟨w.heap.size + 1, 3, none⟩ = some (.int .u64 e) ∧ W.cell? ⟨w.heap.size + 1, 4, none⟩ = some (.int .i64 r) ∧ W.cell? ⟨w.heap.size + 1, 5, none⟩ = some (.int .i64 q) ∧ W.cell? ⟨w.heap.size + 1, 6, none⟩ = some (.int .i64 d))
    (first | exact cells9 k0 k1)
    (first | (go_at_call 9; refine (own_any _ _ _).mono ?_; rintro x wn ⟨rfl, hbn⟩; (first | replace hbn := undrew hbn | skip); replace hb0 := bmore hb0 hbn; replace k0 := k0.next hbn; replace k1 := k1.next hbn; clear hbn) | (go_at_call 20; refine (wish_any _ _ _ _ _ _ _ _).mono ?_; rintro x wn ⟨rfl, hbn⟩; (first | replace hbn := undrew hbn | skip); replace hb0 := bmore hb0 hbn; replace k0 := k0.next hbn; replace k1 := k1.next hbn; clear hbn) | (go_at_call 19; refine (H1.out _).mono ?_; rintro x wn ⟨g, ca, rfl, mA, hbn⟩; replace hb0 := bmore hb0 hbn; replace k0 := k0.next hbn; replace k1 := k1.next hbn; clear hbn))
  all_goals
    obtain ⟨c0, c1, d0, d1, d2, d3, d4, d5, d6⟩ := cells9 k0 k1
    go_wp2_with fail
    refine (wish_any _ _ _ _ _ _ _ _).mono ?_
    rintro x w3 ⟨rfl, hb3⟩
    replace mA := mA.next hb3
    replace k0 := k0.next hb3
    replace k1 := k1.next hb3
    replace hb0 := bmore hb0 hb3
    clear hb3 c0 c1 d0 d1 d2 d3 d4 d5 d6
    have g0 := k0.lt
    have g1 := k1.lt
    have kx := (Bk.new w3 50 #[.int .u64 a, .int .u64 b, .int .u64 c, .int .u64 e, .int .i64 r, .int .i64 q, .int .i64 d]).alloc (.cells #[.int .u64 0, .int .u64 0, .int .u64 0, .int .u64 0] 33)
    have ra : Row .u64 33 ((w3.alloc (.cells #[.int .u64 a, .int .u64 b, .int .u64 c, .int .u64 e, .int .i64 r, .int .i64 q, .int .i64 d] 50)).alloc (.cells #[.int .u64 0, .int .u64 0, .int .u64 0, .int .u64 0] 33)) (w3.heap.size + 1) Mk.zero := by
      have := Row.new (w3.alloc (.cells #[.int .u64 a, .int .u64 b, .int .u64 c, .int .u64 e, .int .i64 r, .int .i64 q, .int .i64 d] 50)) .u64 33 Mk.zero #[.int .u64 0, .int .u64 0, .int .u64 0, .int .u64 0] rfl
      rw [size_alloc] at this
      exact this
    rw [← HA.out.zero] at ra
    have hx : Below w3.heap.size w3 ((w3.alloc (.cells #[.int .u64 a, .int .u64 b, .int .u64 c, .int .u64 e, .int .i64 r, .int .i64 q, .int .i64 d] 50)).alloc (.cells #[.int .u64 0, .int .u64 0, .int .u64 0, .int .u64 0] 33)) := ((Below.refl _ _).alloc (Nat.le_refl _) _).alloc (by simp) _
    replace mA := mA.below hx
    replace k0 := k0.next hx
    replace k1 := k1.next hx
    replace hb0 := bmore hb0 hx
    clear hx
    go_wp2_with fail
    generalize hX : (w3.alloc (.cells #[.int .u64 a, .int .u64 b, .int .u64 c, .int .u64 e, .int .i64 r, .int .i64 q, .int .i64 d] 50)).alloc (.cells #[.int .u64 0, .int .u64 0, .int .u64 0, .int .u64 0] 33) = X at *
    clear hX
    have hI : Below (w3.heap.size + 1) X X := Below.refl _ _
    go_loopw [9] (fun i wr => ∃ k : Nat, k ≤ r ∧ i = .int .i64 k ∧ Row .u64 33 wr (w3.heap.size + 1) (U k) ∧ Below (w3.heap.size + 1) X wr) (fun i _ => r - (intOf i).toNat)
    case atStart => exact ⟨0, Nat.zero_le _, rfl, ra, hI⟩
    case round =>
      clear ra hI
      obtain ⟨k, hk, rfl, ra, hI⟩ := hrel
      replace mA := (mA.more (Nat.le_succ _)).below hI
      replace k0 := k0.below hI (by omega)
      replace k1 := k1.below hI (by omega)
      replace kx := kx.below hI (by omega)
      obtain ⟨c0, c1, d0, d1, d2, d3, d4, d5, d6⟩ := cells9 k0 k1
      have x0 := kx.cell 0 _ rfl
      have x1 := kx.cell 1 _ rfl
      have x2 := kx.cell 2 _ rfl
      have x3 := kx.cell 3 _ rfl
      have hU4 := HA.out.four k
      obtain ⟨u0, u1, u2, u3, hU⟩ := Mk.W4.four hU4
      rw [hU] at ra hU4
      have r0 := ra.cell 0 (by simp)
      have r1 := ra.cell 1 (by simp)
      have r2 := ra.cell 2 (by simp)
      have r3 := ra.cell 3 (by simp)
      by_cases hlt : k < r
      · obtain ⟨m, hm⟩ : ∃ m, msl[k]? = some m := ⟨msl[k]'(by rw [HA.out.len]; exact hlt), List.getElem?_eq_getElem _⟩
        obtain ⟨f1, f2, f3, f4, f5, f6⟩ := HA.out.all k m hm
        obtain ⟨m0, m1, m2, m3, rfl⟩ := Mk.W4.four f1
        obtain ⟨v0, v1, v2, v3, hV⟩ := Mk.W4.four (HA.out.four (k + 1))
        rw [hU, hV] at f6
        rw [hU] at f3
        have CT := Lib.hid (fun W => count4 f1 f2 W)
        have AN := Lib.hid (fun W => and4 f1 hU4 f3 W)
        have MF := Lib.hid (fun W => minus4 f1 HA.out.f4 f4 W)
        have MM := Lib.hid (fun W => minus4 f1 HA.out.a4 f5 W)
        have OR := Lib.hid (fun W => or4e hU4 f1 f6 W)
        have HV := Lib.hid hV
        have HM := Lib.hid hm
        clear f1 f2 f3 f4 f5 f6 hU4 hU hV
        have a0 := mA.2 k _ hm 0 (by decide)
        have a1 := mA.2 k _ hm 1 (by decide)
        have a2 := mA.2 k _ hm 2 (by decide)
        have a3 := mA.2 k _ hm 3 (by decide)
        clear hm
        simp only [Nat.add_zero] at a0
        simp only [Mk.nth, List.getD_cons_zero, List.getD_cons_succ] at a0 a1 a2 a3 r0 r1 r2 r3
        have i0 : (0 : Int) ≤ (k : Int) := by omega
        have i1 : (k : Int) < (r : Int) := by omega
        go_wp2_with fail
        have C0 := In.cell (B := wr.heap.size) k0.lt c0
        have C1 := In.cell (B := wr.heap.size) k0.lt c1
        have D5 := In.cell (B := wr.heap.size) k1.lt d5
        have X0 := In.cell (B := wr.heap.size) kx.lt x0
        have X1 := In.cell (B := wr.heap.size) kx.lt x1
        have X2 := In.cell (B := wr.heap.size) kx.lt x2
        have X3 := In.cell (B := wr.heap.size) kx.lt x3
        have R0 := In.cell (B := wr.heap.size) ra.lt r0
        have R1 := In.cell (B := wr.heap.size) ra.lt r1
        have R2 := In.cell (B := wr.heap.size) ra.lt r2
        have R3 := In.cell (B := wr.heap.size) ra.lt r3
        have hgl : g < wr.heap.size := Nat.lt_of_lt_of_le mA.1 (by have := ra.lt; omega)
        have E0 := In.cell (B := wr.heap.size) hgl a0
        have E1 := In.cell (B := wr.heap.size) hgl a1
        have E2 := In.cell (B := wr.heap.size) hgl a2
        have E3 := In.cell (B := wr.heap.size) hgl a3
        have hIn := inNonempty wr.heap.size wr
        refine region_in wr.heap.size (by kernel_rfl) (by kernel_rfl) ?_
        repeat (go_big_quiet_step ((first | (go_at_call 9; exact Calls.in_of (Nat.le_refl _) (own_any _ _ _)) | (go_at_call 11; exact Calls.in_of (Nat.le_refl _) (H2.out _)) | (go_at_call 24; exact Calls.in_of (Nat.le_refl _) (CT.out _)) | (go_at_call 25; exact Calls.in_of (Nat.le_refl _) (AN.out _)) | (go_at_call 26; with_reducible exact Calls.in_of (Nat.le_refl _) (MF.out _)) | (go_at_call 26; with_reducible exact Calls.in_of (Nat.le_refl _) (MM.out _)))))
        refine wpQuiet_nil ?_
        intro w4 hb4
        clear C0 C1 D5 X0 X1 X2 X3 R0 R1 R2 R3 E0 E1 E2 E3 c0 c1 d0 d1 d2 d3 d4 d5 d6 x0 x1 x2 x3 r0 r1 r2 r3 a0 a1 a2 a3
        go_wp2_with fail
        replace mA := (mA.more (Nat.le_of_lt ra.lt)).next hb4
        replace hI := hI.trans (hb4.mono (Nat.le_of_lt ra.lt))
        replace ra := ra.next hb4
        clear hb4
        refine region_tail 5 (by kernel_rfl) (by kernel_rfl) (fun w5 hw5 => ?_)
        replace ra := ra.hid hw5
        replace hI := below_hid hI hw5
        replace mA := mA.hid hw5
        clear hw5
        have r0 := ra.cell 0 (by simp)
        have r1 := ra.cell 1 (by simp)
        have r2 := ra.cell 2 (by simp)
        have r3 := ra.cell 3 (by simp)
        have a0 := mA.2 k _ HM.out 0 (by decide)
        have a1 := mA.2 k _ HM.out 1 (by decide)
        have a2 := mA.2 k _ HM.out 2 (by decide)
        have a3 := mA.2 k _ HM.out 3 (by decide)
        simp only [Nat.add_zero] at a0
        simp only [Mk.nth, List.getD_cons_zero, List.getD_cons_succ] at a0 a1 a2 a3 r0 r1 r2 r3
        simp only [List.take_succ_cons, List.take_zero, List.drop_succ_cons, List.drop_zero]
        repeat still_step
        refine wpStill_nil ?_
        clear a0 a1 a2 a3 r0 r1 r2 r3
        go_wp2_with fail
        refine (OR.out _).mono ?_
        rintro x w6 ⟨rfl, hb6⟩
        replace hI := hI.trans (hb6.mono (Nat.le_of_lt ra.lt))
        replace ra := ra.next hb6
        clear hb6
        go_wp2_with (refine store_law rfl 33 _ _ rfl (w3.heap.size + 1) .u64 [u0, u1, u2, u3] [v0, v1, v2, v3] rfl rfl 33 ra rfl info33 ?_; intro w7 hw7)
        go_roundw
        case rel =>
          refine ⟨k + 1, by omega, by go_num, ?_, below_hidSet hI hw7 (Nat.le_refl _)⟩
          rw [HV.out]
          exact ra.hidSet hw7
        case measure => simp [intOf]; omega
      · obtain rfl : k = r := by omega
        have hc := HA.out.whole
        rw [hU] at hc
        have CT := Lib.hid (fun W => count4 hU4 hc W)
        have hmul : (k : Int) * (q : Int) = ((k * q : Nat) : Int) := by simp
        have hm2 : k * q ≤ 32 * 256 := Nat.mul_le_mul hl hq
        clear hc hU hU4
        generalize k * q = N at *
        simp only [Mk.nth, List.getD_cons_zero, List.getD_cons_succ] at r0 r1 r2 r3
        go_wp2_with fail
        have D4 := In.cell (B := wr.heap.size) k1.lt d4
        have D5 := In.cell (B := wr.heap.size) k1.lt d5
        have R0 := In.cell (B := wr.heap.size) ra.lt r0
        have R1 := In.cell (B := wr.heap.size) ra.lt r1
        have R2 := In.cell (B := wr.heap.size) ra.lt r2
        have R3 := In.cell (B := wr.heap.size) ra.lt r3
        have hIn := inNonempty wr.heap.size wr
        refine region_in wr.heap.size (by kernel_rfl) (by kernel_rfl) ?_
        repeat (go_big_quiet_step ((first | (go_at_call 24; exact Calls.in_of (Nat.le_refl _) (CT.out _)) | (go_at_call 18; exact Calls.in_of (Nat.le_refl _) (live_any _)))))
        refine wpQuiet_nil ?_
        intro w4 hb4
        clear D4 D5 R0 R1 R2 R3 c0 c1 d0 d1 d2 d3 d4 d5 d6 x0 x1 x2 x3 r0 r1 r2 r3
        go_wp2_with fail
        go_ret
        exact ⟨rfl, hb0.trans ((hI.trans (hb4.mono (Nat.le_of_lt ra.lt))).mono (by omega))⟩
end Go.Proofs.Yteggadafcedojaa
