/- The law MaskTells, walked. -/
import Derived.Test.YthmlibapjhmdbaaDoorR5
namespace Go.Proofs.YthmlibapjhmdbaaDoor
open Go.RowKit Go.Shelf

attribute [local go_sem] eq33 eq40

structure Tst (w V : World) (g1 g2 g3 g4 g5 g6 : Nat) (X0 X1 X2 X3 Y0 Y1 Y2 Y3 Z0 Z1 Z2 Z3 : Value) (B : Option Addr) (xs : List Nat) : Prop where
  b1 : Bk V g1 24 #[X0, X1, X2, X3]
  b2 : Bk V g2 27 #[X0, X1, X2, X3]
  b3 : Bk V g3 27 #[Y0, Y1, Y2, Y3]
  b4 : Bk V g4 24 #[Y0, Y1, Y2, Y3]
  b5 : Bk V g5 27 #[Z0, Z1, Z2, Z3]
  b6 : Bk V g6 24 #[Z0, Z1, Z2, Z3]
  nat : NatsAt V V.heap.size B xs
  low : Below w.heap.size w V
section
variable {w V V' : World} {g1 g2 g3 g4 g5 g6 : Nat} {X0 X1 X2 X3 Y0 Y1 Y2 Y3 Z0 Z1 Z2 Z3 : Value} {B : Option Addr} {xs : List Nat}
theorem Tst.next (h : Tst w V g1 g2 g3 g4 g5 g6 X0 X1 X2 X3 Y0 Y1 Y2 Y3 Z0 Z1 Z2 Z3 B xs) (hb : Below V.heap.size V V') : Tst w V' g1 g2 g3 g4 g5 g6 X0 X1 X2 X3 Y0 Y1 Y2 Y3 Z0 Z1 Z2 Z3 B xs :=
  ⟨h.b1.next hb, h.b2.next hb, h.b3.next hb, h.b4.next hb, h.b5.next hb, h.b6.next hb, (h.nat.below hb).more hb.size, bmore h.low hb⟩
theorem Tst.cells (h : Tst w V g1 g2 g3 g4 g5 g6 X0 X1 X2 X3 Y0 Y1 Y2 Y3 Z0 Z1 Z2 Z3 B xs) :
    V.cell? ⟨g1, 0, none⟩ = some X0 ∧ V.cell? ⟨g1, 1, none⟩ = some X1 ∧ V.cell? ⟨g1, 2, none⟩ = some X2 ∧ V.cell? ⟨g1, 3, none⟩ = some X3 ∧ V.cell? ⟨g2, 0, none⟩ = some X0 ∧ V.cell? ⟨g2, 1, none⟩ = some X1 ∧ V.cell? ⟨g2, 2, none⟩ = some X2 ∧ V.cell? ⟨g2, 3, none⟩ = some X3 ∧ V.cell? ⟨g3, 0, none⟩ = some Y0 ∧ V.cell? ⟨g3, 1, none⟩ = some Y1 ∧ V.cell? ⟨g3, 2, none⟩ = some Y2 ∧ V.cell? ⟨g3, 3, none⟩ = some Y3 ∧ V.cell? ⟨g4, 0, none⟩ = some Y0 ∧ V.cell? ⟨g4, 1, none⟩ = some Y1 ∧ V.cell? ⟨g4, 2, none⟩ = some Y2 ∧ V.cell? ⟨g4, 3, none⟩ = some Y3 ∧ V.cell? ⟨g5, 0, none⟩ = some Z0 ∧ V.cell? ⟨g5, 1, none⟩ = some Z1 ∧ V.cell? ⟨g5, 2, none⟩ = some Z2 ∧ V.cell? ⟨g5, 3, none⟩ = some Z3 ∧ V.cell? ⟨g6, 0, none⟩ = some Z0 ∧ V.cell? ⟨g6, 1, none⟩ = some Z1 ∧ V.cell? ⟨g6, 2, none⟩ = some Z2 ∧ V.cell? ⟨g6, 3, none⟩ = some Z3 :=
  ⟨h.b1.cell 0 _ rfl, h.b1.cell 1 _ rfl, h.b1.cell 2 _ rfl, h.b1.cell 3 _ rfl, h.b2.cell 0 _ rfl, h.b2.cell 1 _ rfl, h.b2.cell 2 _ rfl, h.b2.cell 3 _ rfl, h.b3.cell 0 _ rfl, h.b3.cell 1 _ rfl, h.b3.cell 2 _ rfl, h.b3.cell 3 _ rfl, h.b4.cell 0 _ rfl, h.b4.cell 1 _ rfl, h.b4.cell 2 _ rfl, h.b4.cell 3 _ rfl, h.b5.cell 0 _ rfl, h.b5.cell 1 _ rfl, h.b5.cell 2 _ rfl, h.b5.cell 3 _ rfl, h.b6.cell 0 _ rfl, h.b6.cell 1 _ rfl, h.b6.cell 2 _ rfl, h.b6.cell 3 _ rfl⟩
end

set_option maxRecDepth 100000 in
set_option maxHeartbeats 400000 in
theorem maskTells_long (x0 x1 x2 x3 n cap : Nat) (c : Int) (A : Option Addr) (w : World) (G : Glob w) (hn : 300 < n) (KL : ∀ V : World, Glob V → Calls Tryd.prog 9 #[] V (fun e w' => e = .returned (.bool true) ∧ Below V.heap.size V w')) :
    Calls Tryd.prog 3 #[.agg #[.int .u64 x0, .int .u64 x1, .int .u64 x2, .int .u64 x3], .slice A n cap, .int .i64 c] w fun e w' => e = .returned (.bool true) ∧ Below w.heap.size w w' := by
  replace KL := Lib.hid KL
  have t0 : decide ((300 : Int) < (n : Int)) = true := by simp; omega
  have hb0 := (Below.refl _ w).alloc (Nat.le_refl _) (.cells #[.int .u64 x0, .int .u64 x1, .int .u64 x2, .int .u64 x3] 24)
  go_enter Tryd.func3, Tryd.ntmps3
  go_wp2_with fail
  refine (KL.out _ (G.next hb0)).mono ?_
  rintro e w1 ⟨rfl, hb⟩
  go_wp2_with fail
  go_ret
  exact ⟨rfl, bmore hb0 hb⟩

set_option maxRecDepth 100000 in
set_option maxHeartbeats 4000000 in
theorem maskTells_walk (x0 x1 x2 x3 a0 a1 a2 a3 d0 d1 d2 d3 n cap nx : Nat) (xs : List Nat) (c e0 e1 : Int) (hB : Bool) (A : Option Addr) (w : World) (G : Glob w) (hn : n ≤ 300) (hxs : xs.length = nx) (hnx : nx ≤ 256)
    (K11 : ∀ V : World, Below w.heap.size w V → Calls Tryd.prog 11 #[.slice A n cap] V (fun e w' => e = .returned (.tuple #[.agg #[.int .u64 a0, .int .u64 a1, .int .u64 a2, .int .u64 a3], .int .i64 e0]) ∧ Below V.heap.size V w'))
    (K12 : ∀ V : World, Below w.heap.size w V → Calls Tryd.prog 12 #[.slice A n cap] V (fun e w' => e = .returned (.tuple #[.agg #[.int .u64 a0, .int .u64 a1, .int .u64 a2, .int .u64 a3], .int .i64 e0]) ∧ Below V.heap.size V w'))
    (K13 : ∀ V : World, Calls Tryd.prog 13 #[.int .i64 c] V (fun e w' => e = .returned (.tuple #[.agg #[.int .u64 d0, .int .u64 d1, .int .u64 d2, .int .u64 d3], .int .i64 e1]) ∧ Below V.heap.size V w'))
    (K14 : ∀ V : World, Calls Tryd.prog 14 #[.int .i64 c] V (fun e w' => e = .returned (.tuple #[.agg #[.int .u64 d0, .int .u64 d1, .int .u64 d2, .int .u64 d3], .int .i64 e1]) ∧ Below V.heap.size V w'))
    (K15 : ∀ V : World, Calls Tryd.prog 15 #[.agg #[.int .u64 x0, .int .u64 x1, .int .u64 x2, .int .u64 x3]] V (fun e w' => ∃ B cb, e = .returned (.slice B nx cb) ∧ NatsAt w' w'.heap.size B xs ∧ Below V.heap.size V w'))
    (K17 : ∀ V : World, Glob V → Calls Tryd.prog 17 #[.agg #[.int .u64 x0, .int .u64 x1, .int .u64 x2, .int .u64 x3]] V (fun e w' => ∃ B cb, e = .returned (.slice B nx cb) ∧ NatsAt w' w'.heap.size B xs ∧ Below V.heap.size V w'))
    (KC : ∀ V : World, Calls Tryd.prog 18 #[.agg #[.int .u64 x0, .int .u64 x1, .int .u64 x2, .int .u64 x3]] V (fun e w' => e = .returned (.int .i64 nx) ∧ Below V.heap.size V w'))
    (K19 : ∀ V : World, Calls Tryd.prog 19 #[.agg #[.int .u64 x0, .int .u64 x1, .int .u64 x2, .int .u64 x3], .int .i64 c] V (fun e w' => e = .returned (.bool hB) ∧ Below V.heap.size V w'))
    (K20 : ∀ V : World, Calls Tryd.prog 20 #[.agg #[.int .u64 x0, .int .u64 x1, .int .u64 x2, .int .u64 x3], .int .i64 c] V (fun e w' => e = .returned (.bool hB) ∧ Below V.heap.size V w'))
    (KL : ∀ V : World, Glob V → Calls Tryd.prog 9 #[] V (fun e w' => e = .returned (.bool true) ∧ Below V.heap.size V w')) :
    Calls Tryd.prog 3 #[.agg #[.int .u64 x0, .int .u64 x1, .int .u64 x2, .int .u64 x3], .slice A n cap, .int .i64 c] w fun e w' => e = .returned (.bool true) ∧ Below w.heap.size w w' := by
  replace KL := Lib.hid KL; replace K11 := Lib.hid K11; replace K12 := Lib.hid K12; replace K13 := Lib.hid K13; replace K14 := Lib.hid K14; replace K15 := Lib.hid K15; replace K17 := Lib.hid K17; replace KC := Lib.hid KC; replace K19 := Lib.hid K19; replace K20 := Lib.hid K20
  have HX := Lib.hid hxs
  clear hxs
  have t0 : decide ((300 : Int) < (n : Int)) = false := by simp; omega
  have hb0 := (Below.refl _ w).alloc (Nat.le_refl _) (.cells #[.int .u64 x0, .int .u64 x1, .int .u64 x2, .int .u64 x3] 24)
  have k0 := Bk.new w 24 #[.int .u64 x0, .int .u64 x1, .int .u64 x2, .int .u64 x3]
  go_enter Tryd.func3, Tryd.ntmps3
  go_wp2_with fail
  refine (own_any _ _ _ _ _).mono ?_
  rintro e w1 ⟨rfl, hb⟩
  replace hb0 := bmore hb0 hb; replace k0 := k0.next hb; clear hb
  have hx : Below w1.heap.size w1 (w1.alloc (.cells #[.int .u64 x0, .int .u64 x1, .int .u64 x2, .int .u64 x3] 27)) := (Below.refl _ _).alloc (Nat.le_refl _) _
  have j0 := Bk.new w1 27 #[.int .u64 x0, .int .u64 x1, .int .u64 x2, .int .u64 x3]
  replace hb0 := bmore hb0 hx; replace k0 := k0.next hx; clear hx
  go_wp2_with fail
  refine (K11.out _ hb0).mono ?_
  rintro e w2 ⟨rfl, hb⟩
  replace hb0 := bmore hb0 hb; replace k0 := k0.next hb; replace j0 := j0.next hb; clear hb
  have hx : Below w2.heap.size w2 (w2.alloc (.cells #[.int .u64 a0, .int .u64 a1, .int .u64 a2, .int .u64 a3] 27)) := (Below.refl _ _).alloc (Nat.le_refl _) _
  have j1 := Bk.new w2 27 #[.int .u64 a0, .int .u64 a1, .int .u64 a2, .int .u64 a3]
  replace hb0 := bmore hb0 hx; replace k0 := k0.next hx; replace j0 := j0.next hx; clear hx
  go_wp2_with fail
  refine (K12.out _ hb0).mono ?_
  rintro e w3 ⟨rfl, hb⟩
  replace hb0 := bmore hb0 hb; replace k0 := k0.next hb; replace j0 := j0.next hb; replace j1 := j1.next hb; clear hb
  have hx : Below w3.heap.size w3 (w3.alloc (.cells #[.int .u64 a0, .int .u64 a1, .int .u64 a2, .int .u64 a3] 24)) := (Below.refl _ _).alloc (Nat.le_refl _) _
  have j2 := Bk.new w3 24 #[.int .u64 a0, .int .u64 a1, .int .u64 a2, .int .u64 a3]
  replace hb0 := bmore hb0 hx; replace k0 := k0.next hx; replace j0 := j0.next hx; replace j1 := j1.next hx; clear hx
  go_wp2_with fail
  refine (K13.out _).mono ?_
  rintro e w4 ⟨rfl, hb⟩
  replace hb0 := bmore hb0 hb; replace k0 := k0.next hb; replace j0 := j0.next hb; replace j1 := j1.next hb; replace j2 := j2.next hb; clear hb
  have hx : Below w4.heap.size w4 (w4.alloc (.cells #[.int .u64 d0, .int .u64 d1, .int .u64 d2, .int .u64 d3] 27)) := (Below.refl _ _).alloc (Nat.le_refl _) _
  have j3 := Bk.new w4 27 #[.int .u64 d0, .int .u64 d1, .int .u64 d2, .int .u64 d3]
  replace hb0 := bmore hb0 hx; replace k0 := k0.next hx; replace j0 := j0.next hx; replace j1 := j1.next hx; replace j2 := j2.next hx; clear hx
  go_wp2_with fail
  refine (K14.out _).mono ?_
  rintro e w5 ⟨rfl, hb⟩
  replace hb0 := bmore hb0 hb; replace k0 := k0.next hb; replace j0 := j0.next hb; replace j1 := j1.next hb; replace j2 := j2.next hb; replace j3 := j3.next hb; clear hb
  have hx : Below w5.heap.size w5 (w5.alloc (.cells #[.int .u64 d0, .int .u64 d1, .int .u64 d2, .int .u64 d3] 24)) := (Below.refl _ _).alloc (Nat.le_refl _) _
  have j4 := Bk.new w5 24 #[.int .u64 d0, .int .u64 d1, .int .u64 d2, .int .u64 d3]
  replace hb0 := bmore hb0 hx; replace k0 := k0.next hx; replace j0 := j0.next hx; replace j1 := j1.next hx; replace j2 := j2.next hx; replace j3 := j3.next hx; clear hx
  obtain ⟨r0, r1, r2, r3⟩ := k0.four
  go_wp2_with fail
  clear r0 r1 r2 r3
  refine (K15.out _).mono ?_
  rintro e w6 ⟨B, cb, rfl, hN, hb⟩
  replace hb0 := bmore hb0 hb; replace k0 := k0.next hb; replace j0 := j0.next hb; replace j1 := j1.next hb; replace j2 := j2.next hb; replace j3 := j3.next hb; replace j4 := j4.next hb; clear hb
  have st : Tst w w6 w.heap.size w1.heap.size w2.heap.size w3.heap.size w4.heap.size w5.heap.size (.int .u64 x0) (.int .u64 x1) (.int .u64 x2) (.int .u64 x3) (.int .u64 a0) (.int .u64 a1) (.int .u64 a2) (.int .u64 a3) (.int .u64 d0) (.int .u64 d1) (.int .u64 d2) (.int .u64 d3) B xs := ⟨k0, j0, j1, j2, j3, j4, hN, hb0⟩
  clear k0 j0 j1 j2 j3 j4 hN hb0
  go_wp2_with fail
  go_region_held3 (fun W => W.cell? ⟨w.heap.size, 0, none⟩ = some (.int .u64 x0) ∧ W.cell? ⟨w.heap.size, 1, none⟩ = some (.int .u64 x1) ∧ W.cell? ⟨w.heap.size, 2, none⟩ = some (.int .u64 x2) ∧ W.cell? ⟨w.heap.size, 3, none⟩ = some (.int .u64 x3) ∧ W.cell? ⟨w1.heap.size, 0, none⟩ = some (.int .u64 x0) ∧ W.cell? ⟨w1.heap.size, 1, none⟩ = some (.int .u64 x1) ∧ W.cell? ⟨w1.heap.size, 2, none⟩ = some (.int .u64 x2) ∧ W.cell? ⟨w1.heap.size, 3, none⟩ = some (.int .u64 x3) ∧ W.cell? ⟨w2.heap.size, 0, none⟩ = some (.int .u64 a0) ∧ W.cell? ⟨w2.heap.size, 1, none⟩ = some (.int .u64 a1) ∧ W.cell? ⟨w2.heap.size, 2, none⟩ = some (.int .u64 a2) ∧ W.cell? ⟨w2.heap.size, 3, none⟩ = some (.int .u64 a3) ∧ W.cell? ⟨w3.heap.size, 0, none⟩ = some (.int .u64 a0) ∧ W.cell? ⟨w3.heap.size, 1, none⟩ = some (.int .u64 a1) ∧ W.cell? ⟨w3.heap.size, 2, none⟩ = some (.int .u64 a2) ∧ W.cell? ⟨w3.heap.size, 3, none⟩ = some (.int .u64 a3) ∧ W.cell? ⟨w4.heap.size, 0, none⟩ = some (.int .u64 d0) ∧ W.cell? ⟨w4.heap.size, 1, none⟩ = some (.int .u64 d1) ∧ W.cell? ⟨w4.heap.size, 2, none⟩ = some (.int .u64 d2) ∧ W.cell? ⟨w4.heap.size, 3, none⟩ = some (.int .u64 d3) ∧ W.cell? ⟨w5.heap.size, 0, none⟩ = some (.int .u64 d0) ∧ W.cell? ⟨w5.heap.size, 1, none⟩ = some (.int .u64 d1) ∧ W.cell? ⟨w5.heap.size, 2, none⟩ = some (.int .u64 d2) ∧ W.cell? ⟨w5.heap.size, 3, none⟩ = some (.int .u64 d3))
    (first | exact st.cells)
    (first | (go_at_call 17; refine (K17.out _ (by first | exact G.next st.low | exact G.next st.low.drew)).mono ?_; rintro x wn ⟨A1, ca1, rfl, hA1, hbn⟩; (first | replace hbn := undrew hbn | skip); replace st := st.next hbn; clear hbn) | (go_at_call 16; refine (same_eq A1 B ca1 cb nx xs _ hA1 st.nat HX.out (by omega)).mono ?_; rintro x wn ⟨rfl, hbn⟩; clear hA1; (first | replace hbn := undrew hbn | skip); replace st := st.next hbn; clear hbn) | (go_at_call 18; refine (KC.out _).mono ?_; rintro x wn ⟨rfl, hbn⟩; (first | replace hbn := undrew hbn | skip); replace st := st.next hbn; clear hbn) | (go_at_call 19; refine (K19.out _).mono ?_; rintro x wn ⟨rfl, hbn⟩; (first | replace hbn := undrew hbn | skip); replace st := st.next hbn; clear hbn) | (go_at_call 20; refine (K20.out _).mono ?_; rintro x wn ⟨rfl, hbn⟩; (first | replace hbn := undrew hbn | skip); replace st := st.next hbn; clear hbn) | (go_at_call 21; refine (told_any _ _ _ _ _).mono ?_; rintro x wn ⟨rfl, hbn⟩; (first | replace hbn := undrew hbn | skip); replace st := st.next hbn; clear hbn) | (go_at_call 9; refine (KL.out _ (by first | exact G.next st.low | exact G.next st.low.drew)).mono ?_; rintro x wn ⟨rfl, hbn⟩; (first | replace hbn := undrew hbn | skip); replace st := st.next hbn; clear hbn))
  all_goals
    go_wp2_with fail
    go_ret
    exact ⟨rfl, st.low⟩
end Go.Proofs.YthmlibapjhmdbaaDoor
