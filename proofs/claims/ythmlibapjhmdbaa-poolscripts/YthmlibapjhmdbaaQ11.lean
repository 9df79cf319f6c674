/- A pool: Reserve. -/
import Derived.Test.YthmlibapjhmdbaaQ9
import Derived.Test.YthmlibapjhmdbaaQ10
import Derived.Deep.RegionHeld3
namespace Go.Proofs.Ythmlibapjhmdbaa
open Go.RowKit Go.Shelf Go.Maps

set_option maxRecDepth 100000 in
set_option maxHeartbeats 4000000 in
theorem reserve_has {w : World} {p b k s q : Nat} {g : Int → Option Sh} (h : PoolAt w p b k s q g) {n : Int} (hn : (Lit.int .i64 n).wf = true) (x0 x1 x2 x3 : Nat) (r pe d : Int) (KO : ∀ V : World, Calls Try.prog 45 #[.int .i64 n] V fun e w' => e = .returned (.bool true) ∧ V = w') (hg : (g n).isSome = true) : Calls Try.prog 26 #[.pointer (some ⟨p, 0, none⟩), .int .i64 n, .agg #[.int .u64 x0, .int .u64 x1, .int .u64 x2, .int .u64 x3, .int .i64 r, .int .i64 pe, .int .i64 d]] w fun e w' => e = .returned (.tuple #[.slice none 0 0, .int .i64 14]) ∧ Below w.heap.size w w' := by
  replace KO := Lib.hid KO
  have HN := Lib.hid hn
  have hb0 := (Below.refl _ w).alloc (Nat.le_refl _) (.cells #[.int .u64 x0, .int .u64 x1, .int .u64 x2, .int .u64 x3, .int .i64 r, .int .i64 pe, .int .i64 d] 61)
  have j0 := Bk.new w 61 #[.int .u64 x0, .int .u64 x1, .int .u64 x2, .int .u64 x3, .int .i64 r, .int .i64 pe, .int .i64 d]
  replace h := h.next hb0
  go_enter Try.func26, Try.ntmps26
  go_wp2_with fail
  refine (KO.out _).mono ?_
  rintro e w1 ⟨rfl, rfl⟩
  go_wp2_with fail
  have KH := has_any h HN.out
  rw [hg] at KH
  refine KH.mono ?_
  rintro e w3 ⟨rfl, hb⟩
  go_wp2_with fail
  go_ret2
  exact ⟨rfl, bmore hb0 hb⟩
theorem undrew {B : Nat} {a w : World} (h : Below B a.drew w) : Below B a w := ⟨h.os, h.tape, h.output, h.size, h.block⟩
theorem Bk.set7 {w : World} {gg : Nat} {t : TypeId} {x0 x1 x2 x3 x4 x5 x6 : Value} (h : Bk w gg t #[x0, x1, x2, x3, x4, x5, x6]) (a b c d : Value) : Bk ((((w.setCell ⟨gg, 0, none⟩ a).setCell ⟨gg, 1, none⟩ b).setCell ⟨gg, 2, none⟩ c).setCell ⟨gg, 3, none⟩ d) gg t #[a, b, c, d, x4, x5, x6] := by
  have e1 := heap_setCell_same w gg 0 _ t a h
  have e2 := heap_setCell_same _ gg 1 _ t b e1
  have e3 := heap_setCell_same _ gg 2 _ t c e2
  have e4 := heap_setCell_same _ gg 3 _ t d e3
  simpa [Bk] using e4
theorem PoolAt.set4 {w : World} {p b k s q gg : Nat} {g : Int → Option Sh} (h : PoolAt w p b k s q g) (hp : p ≠ gg) (hb : b ≠ gg) (x y z u : Value) : PoolAt ((((w.setCell ⟨gg, 0, none⟩ x).setCell ⟨gg, 1, none⟩ y).setCell ⟨gg, 2, none⟩ z).setCell ⟨gg, 3, none⟩ u) p b k s q g :=
  (((h.setCell (a := ⟨gg, 0, none⟩) hp hb x).setCell (a := ⟨gg, 1, none⟩) hp hb y).setCell (a := ⟨gg, 2, none⟩) hp hb z).setCell (a := ⟨gg, 3, none⟩) hp hb u
set_option maxRecDepth 100000 in
set_option maxHeartbeats 4000000 in
theorem reserve_few {w : World} {p b k s q : Nat} {g : Int → Option Sh} (h : PoolAt w p b k s q g) {n : Int} (hn : (Lit.int .i64 n).wf = true) (x0 x1 x2 x3 : Nat) (r pe d : Int) (f0 f1 f2 f3 : Nat) (er : Int) (her : er ≠ 0) (KO : ∀ V : World, Calls Try.prog 45 #[.int .i64 n] V fun e w' => e = .returned (.bool true) ∧ V = w') (hg : (g n).isSome = false)
    (KF : ∀ V : World, PoolAt V p b k s q g → Calls Try.prog 13 #[.pointer (some ⟨p, 0, none⟩)] V fun e w' => e = .returned (.agg #[.int .u64 f0, .int .u64 f1, .int .u64 f2, .int .u64 f3]) ∧ Below V.heap.size V w')
    (KA : ∀ V : World, Calls Try.prog 46 #[.agg #[.int .i64 s, .int .i64 q], .agg #[.int .u64 f0, .int .u64 f1, .int .u64 f2, .int .u64 f3, .int .i64 r, .int .i64 pe, .int .i64 d]] V fun e w' => e = .returned (.tuple #[.slice none 0 0, .int .i64 er]) ∧ Below V.heap.size V w') :
    Calls Try.prog 26 #[.pointer (some ⟨p, 0, none⟩), .int .i64 n, .agg #[.int .u64 x0, .int .u64 x1, .int .u64 x2, .int .u64 x3, .int .i64 r, .int .i64 pe, .int .i64 d]] w fun e w' => e = .returned (.tuple #[.slice none 0 0, .int .i64 er]) ∧ Below w.heap.size w w' := by
  have hpw : p ≠ w.heap.size := by have := h.blk.lt; omega
  have hbw : b ≠ w.heap.size := by
    obtain ⟨D, h1, _⟩ := h.own
    have := h1.lt
    omega
  replace KF := Lib.hid KF
  replace KA := Lib.hid KA
  have ter : (er != 0) = true := by simpa using her
  clear her
  replace KO := Lib.hid KO
  have HN := Lib.hid hn
  have hb0 := (Below.refl _ w).alloc (Nat.le_refl _) (.cells #[.int .u64 x0, .int .u64 x1, .int .u64 x2, .int .u64 x3, .int .i64 r, .int .i64 pe, .int .i64 d] 61)
  have j0 := Bk.new w 61 #[.int .u64 x0, .int .u64 x1, .int .u64 x2, .int .u64 x3, .int .i64 r, .int .i64 pe, .int .i64 d]
  replace h := h.next hb0
  go_enter Try.func26, Try.ntmps26
  go_wp2_with fail
  refine (KO.out _).mono ?_
  rintro e w1 ⟨rfl, rfl⟩
  go_wp2_with fail
  have KH := has_any h HN.out
  rw [hg] at KH
  refine KH.mono ?_
  rintro e w3 ⟨rfl, hb⟩
  replace hb0 := bmore hb0 hb; replace j0 := j0.next hb; replace h := h.next hb; clear hb KH
  go_wp2_with fail
  refine (KF.out _ h).mono ?_
  rintro e w4 ⟨rfl, hb⟩
  replace hb0 := bmore hb0 hb; replace j0 := j0.next hb; replace h := h.next hb; clear hb
  have y0 := j0.cell 0 _ rfl
  have y1 := j0.cell 1 _ rfl
  have y2 := j0.cell 2 _ rfl
  have y3 := j0.cell 3 _ rfl
  have z0 := j0.frozen 0
  have z1 := j0.frozen 1
  have z2 := j0.frozen 2
  have z3 := j0.frozen 3
  have HP := Lib.hid (h.set4 (gg := w.heap.size) hpw hbw (.int .u64 f0) (.int .u64 f1) (.int .u64 f2) (.int .u64 f3))
  have HJ := Lib.hid (j0.set7 (.int .u64 f0) (.int .u64 f1) (.int .u64 f2) (.int .u64 f3))
  have HB := Lib.hid ((((hb0.setCell (p := ⟨w.heap.size, 0, none⟩) (Nat.le_refl _) (.int .u64 f0)).setCell (p := ⟨w.heap.size, 1, none⟩) (Nat.le_refl _) (.int .u64 f1)).setCell (p := ⟨w.heap.size, 2, none⟩) (Nat.le_refl _) (.int .u64 f2)).setCell (p := ⟨w.heap.size, 3, none⟩) (Nat.le_refl _) (.int .u64 f3))
  clear h j0 hb0
  go_wp2_with fail
  clear y0 y1 y2 y3 z0 z1 z2 z3
  generalize (((w4.setCell ⟨w.heap.size, 0, none⟩ (.int .u64 f0)).setCell ⟨w.heap.size, 1, none⟩ (.int .u64 f1)).setCell ⟨w.heap.size, 2, none⟩ (.int .u64 f2)).setCell ⟨w.heap.size, 3, none⟩ (.int .u64 f3) = w5 at *
  have st : PoolAt w5 p b k s q g ∧ Bk w5 w.heap.size 61 #[.int .u64 f0, .int .u64 f1, .int .u64 f2, .int .u64 f3, .int .i64 r, .int .i64 pe, .int .i64 d] ∧ Below w.heap.size w w5 := ⟨HP.out, HJ.out, HB.out⟩
  have KS : Hid (∀ V, PoolAt V p b k s q g ∧ Bk V w.heap.size 61 #[.int .u64 f0, .int .u64 f1, .int .u64 f2, .int .u64 f3, .int .i64 r, .int .i64 pe, .int .i64 d] ∧ Below w.heap.size w V → V.cell? ⟨p, 0, none⟩ = some (.int .i64 s) ∧ V.cell? ⟨p, 1, none⟩ = some (.int .i64 q) ∧ V.cell? ⟨w.heap.size, 0, none⟩ = some (.int .u64 f0) ∧ V.cell? ⟨w.heap.size, 1, none⟩ = some (.int .u64 f1) ∧ V.cell? ⟨w.heap.size, 2, none⟩ = some (.int .u64 f2) ∧ V.cell? ⟨w.heap.size, 3, none⟩ = some (.int .u64 f3) ∧ V.cell? ⟨w.heap.size, 4, none⟩ = some (.int .i64 r) ∧ V.cell? ⟨w.heap.size, 5, none⟩ = some (.int .i64 pe) ∧ V.cell? ⟨w.heap.size, 6, none⟩ = some (.int .i64 d)) := Lib.hid (fun V hV => ⟨hV.1.cells.1, hV.1.cells.2.1, hV.2.1.cell 0 _ rfl, hV.2.1.cell 1 _ rfl, hV.2.1.cell 2 _ rfl, hV.2.1.cell 3 _ rfl, hV.2.1.cell 4 _ rfl, hV.2.1.cell 5 _ rfl, hV.2.1.cell 6 _ rfl⟩)
  have KX : Hid (∀ V V', PoolAt V p b k s q g ∧ Bk V w.heap.size 61 #[.int .u64 f0, .int .u64 f1, .int .u64 f2, .int .u64 f3, .int .i64 r, .int .i64 pe, .int .i64 d] ∧ Below w.heap.size w V → Below V.heap.size V V' → PoolAt V' p b k s q g ∧ Bk V' w.heap.size 61 #[.int .u64 f0, .int .u64 f1, .int .u64 f2, .int .u64 f3, .int .i64 r, .int .i64 pe, .int .i64 d] ∧ Below w.heap.size w V') := Lib.hid (fun V V' hV hb => ⟨hV.1.next hb, hV.2.1.next hb, bmore hV.2.2 hb⟩)
  have KY := Lib.hid (KX.out w5 w5.drew st (Below.refl _ _).drew)
  clear HP HJ HB
  go_region_held3 (fun W => W.cell? ⟨p, 0, none⟩ = some (.int .i64 s) ∧ W.cell? ⟨p, 1, none⟩ = some (.int .i64 q) ∧ W.cell? ⟨w.heap.size, 0, none⟩ = some (.int .u64 f0) ∧ W.cell? ⟨w.heap.size, 1, none⟩ = some (.int .u64 f1) ∧ W.cell? ⟨w.heap.size, 2, none⟩ = some (.int .u64 f2) ∧ W.cell? ⟨w.heap.size, 3, none⟩ = some (.int .u64 f3) ∧ W.cell? ⟨w.heap.size, 4, none⟩ = some (.int .i64 r) ∧ W.cell? ⟨w.heap.size, 5, none⟩ = some (.int .i64 pe) ∧ W.cell? ⟨w.heap.size, 6, none⟩ = some (.int .i64 d))
    (first | exact KS.out _ st | exact KS.out _ KY.out)
    (first | (go_at_call 46; refine (KA.out _).mono ?_; rintro y wn ⟨rfl, hbn⟩; (first | replace hbn := undrew hbn | skip); replace st := KX.out _ _ st hbn; clear hbn))
  all_goals
    go_wp2_with fail
    go_ret2
    exact ⟨rfl, st.2.2⟩
set_option maxRecDepth 100000 in
set_option maxHeartbeats 4000000 in
theorem reserve_ok {w : World} {p b k s q : Nat} {g : Int → Option Sh} (h : PoolAt w p b k s q g) {n : Int} (hn : (Lit.int .i64 n).wf = true) (x0 x1 x2 x3 : Nat) (r pe d : Int) (hk : k < 1000000) (c : Sh) (f0 f1 f2 f3 a0 a1 a2 a3 R : Nat) (fl : List Nat) (hc : c.m = [a0, a1, a2, a3]) (ht : c.t = false) (KO : ∀ V : World, Calls Try.prog 45 #[.int .i64 n] V fun e w' => e = .returned (.bool true) ∧ V = w') (hg : (g n).isSome = false)
    (KF : ∀ V : World, PoolAt V p b k s q g → Calls Try.prog 13 #[.pointer (some ⟨p, 0, none⟩)] V fun e w' => e = .returned (.agg #[.int .u64 f0, .int .u64 f1, .int .u64 f2, .int .u64 f3]) ∧ Below V.heap.size V w')
    (KA : ∀ V : World, Calls Try.prog 46 #[.agg #[.int .i64 s, .int .i64 q], .agg #[.int .u64 f0, .int .u64 f1, .int .u64 f2, .int .u64 f3, .int .i64 r, .int .i64 pe, .int .i64 d]] V fun e w' => ∃ gm, e = .returned (.tuple #[.slice (some ⟨gm, 0, none⟩) R R, .int .i64 0]) ∧ V.heap.size ≤ gm ∧ Row .u64 40 w' gm fl ∧ Below V.heap.size V w')
    (KU : ∀ (V : World) (gm : Nat), Row .u64 40 V gm fl → Calls Try.prog 47 #[.slice (some ⟨gm, 0, none⟩) R R] V fun e w' => e = .returned (.agg #[.int .u64 a0, .int .u64 a1, .int .u64 a2, .int .u64 a3]) ∧ Below V.heap.size V w') :
    Calls Try.prog 26 #[.pointer (some ⟨p, 0, none⟩), .int .i64 n, .agg #[.int .u64 x0, .int .u64 x1, .int .u64 x2, .int .u64 x3, .int .i64 r, .int .i64 pe, .int .i64 d]] w fun e w' => ∃ gm, e = .returned (.tuple #[.slice (some ⟨gm, 0, none⟩) R R, .int .i64 0]) ∧ w.heap.size ≤ gm ∧ Row .u64 40 w' gm fl ∧ Turned w w' p b (k + 1) s q (fun m => if m = n then some c else g m) := by
  have hpw : p ≠ w.heap.size := by have := h.blk.lt; omega
  have hbw : b ≠ w.heap.size := by
    obtain ⟨D, h1, _⟩ := h.own
    have := h1.lt
    omega
  replace KF := Lib.hid KF
  replace KA := Lib.hid KA
  replace KU := Lib.hid KU
  have HSh : Hid (shV c = .agg #[.int .u64 a0, .int .u64 a1, .int .u64 a2, .int .u64 a3, .bool false]) := by
    show _ = _
    unfold shV
    rw [hc, ht]
    rfl
  clear hc ht
  have hbl : b < w.heap.size := by
    obtain ⟨D, h1, _⟩ := h.own
    exact h1.lt
  have HK := Lib.hid (show k < maxLen by unfold maxLen; omega)
  replace KO := Lib.hid KO
  have HN := Lib.hid hn
  have hb0 := (Below.refl _ w).alloc (Nat.le_refl _) (.cells #[.int .u64 x0, .int .u64 x1, .int .u64 x2, .int .u64 x3, .int .i64 r, .int .i64 pe, .int .i64 d] 61)
  have j0 := Bk.new w 61 #[.int .u64 x0, .int .u64 x1, .int .u64 x2, .int .u64 x3, .int .i64 r, .int .i64 pe, .int .i64 d]
  replace h := h.next hb0
  go_enter Try.func26, Try.ntmps26
  go_wp2_with fail
  refine (KO.out _).mono ?_
  rintro e w1 ⟨rfl, rfl⟩
  go_wp2_with fail
  have KH := has_any h HN.out
  rw [hg] at KH
  refine KH.mono ?_
  rintro e w3 ⟨rfl, hb⟩
  replace hb0 := bmore hb0 hb; replace j0 := j0.next hb; replace h := h.next hb; clear hb KH
  go_wp2_with fail
  refine (KF.out _ h).mono ?_
  rintro e w4 ⟨rfl, hb⟩
  replace hb0 := bmore hb0 hb; replace j0 := j0.next hb; replace h := h.next hb; clear hb
  have y0 := j0.cell 0 _ rfl
  have y1 := j0.cell 1 _ rfl
  have y2 := j0.cell 2 _ rfl
  have y3 := j0.cell 3 _ rfl
  have z0 := j0.frozen 0
  have z1 := j0.frozen 1
  have z2 := j0.frozen 2
  have z3 := j0.frozen 3
  have HP := Lib.hid (h.set4 (gg := w.heap.size) hpw hbw (.int .u64 f0) (.int .u64 f1) (.int .u64 f2) (.int .u64 f3))
  have HJ := Lib.hid (j0.set7 (.int .u64 f0) (.int .u64 f1) (.int .u64 f2) (.int .u64 f3))
  have HB := Lib.hid ((((hb0.setCell (p := ⟨w.heap.size, 0, none⟩) (Nat.le_refl _) (.int .u64 f0)).setCell (p := ⟨w.heap.size, 1, none⟩) (Nat.le_refl _) (.int .u64 f1)).setCell (p := ⟨w.heap.size, 2, none⟩) (Nat.le_refl _) (.int .u64 f2)).setCell (p := ⟨w.heap.size, 3, none⟩) (Nat.le_refl _) (.int .u64 f3))
  clear h j0 hb0
  go_wp2_with fail
  clear y0 y1 y2 y3 z0 z1 z2 z3
  generalize (((w4.setCell ⟨w.heap.size, 0, none⟩ (.int .u64 f0)).setCell ⟨w.heap.size, 1, none⟩ (.int .u64 f1)).setCell ⟨w.heap.size, 2, none⟩ (.int .u64 f2)).setCell ⟨w.heap.size, 3, none⟩ (.int .u64 f3) = w5 at *
  have st : PoolAt w5 p b k s q g ∧ Bk w5 w.heap.size 61 #[.int .u64 f0, .int .u64 f1, .int .u64 f2, .int .u64 f3, .int .i64 r, .int .i64 pe, .int .i64 d] ∧ Below w.heap.size w w5 := ⟨HP.out, HJ.out, HB.out⟩
  have KS : Hid (∀ V, PoolAt V p b k s q g ∧ Bk V w.heap.size 61 #[.int .u64 f0, .int .u64 f1, .int .u64 f2, .int .u64 f3, .int .i64 r, .int .i64 pe, .int .i64 d] ∧ Below w.heap.size w V → V.cell? ⟨p, 0, none⟩ = some (.int .i64 s) ∧ V.cell? ⟨p, 1, none⟩ = some (.int .i64 q) ∧ V.cell? ⟨w.heap.size, 0, none⟩ = some (.int .u64 f0) ∧ V.cell? ⟨w.heap.size, 1, none⟩ = some (.int .u64 f1) ∧ V.cell? ⟨w.heap.size, 2, none⟩ = some (.int .u64 f2) ∧ V.cell? ⟨w.heap.size, 3, none⟩ = some (.int .u64 f3) ∧ V.cell? ⟨w.heap.size, 4, none⟩ = some (.int .i64 r) ∧ V.cell? ⟨w.heap.size, 5, none⟩ = some (.int .i64 pe) ∧ V.cell? ⟨w.heap.size, 6, none⟩ = some (.int .i64 d)) := Lib.hid (fun V hV => ⟨hV.1.cells.1, hV.1.cells.2.1, hV.2.1.cell 0 _ rfl, hV.2.1.cell 1 _ rfl, hV.2.1.cell 2 _ rfl, hV.2.1.cell 3 _ rfl, hV.2.1.cell 4 _ rfl, hV.2.1.cell 5 _ rfl, hV.2.1.cell 6 _ rfl⟩)
  have KX : Hid (∀ V V', PoolAt V p b k s q g ∧ Bk V w.heap.size 61 #[.int .u64 f0, .int .u64 f1, .int .u64 f2, .int .u64 f3, .int .i64 r, .int .i64 pe, .int .i64 d] ∧ Below w.heap.size w V → Below V.heap.size V V' → PoolAt V' p b k s q g ∧ Bk V' w.heap.size 61 #[.int .u64 f0, .int .u64 f1, .int .u64 f2, .int .u64 f3, .int .i64 r, .int .i64 pe, .int .i64 d] ∧ Below w.heap.size w V') := Lib.hid (fun V V' hV hb => ⟨hV.1.next hb, hV.2.1.next hb, bmore hV.2.2 hb⟩)
  have KY := Lib.hid (KX.out w5 w5.drew st (Below.refl _ _).drew)
  clear HP HJ HB
  go_region_held3 (fun W => W.cell? ⟨p, 0, none⟩ = some (.int .i64 s) ∧ W.cell? ⟨p, 1, none⟩ = some (.int .i64 q) ∧ W.cell? ⟨w.heap.size, 0, none⟩ = some (.int .u64 f0) ∧ W.cell? ⟨w.heap.size, 1, none⟩ = some (.int .u64 f1) ∧ W.cell? ⟨w.heap.size, 2, none⟩ = some (.int .u64 f2) ∧ W.cell? ⟨w.heap.size, 3, none⟩ = some (.int .u64 f3) ∧ W.cell? ⟨w.heap.size, 4, none⟩ = some (.int .i64 r) ∧ W.cell? ⟨w.heap.size, 5, none⟩ = some (.int .i64 pe) ∧ W.cell? ⟨w.heap.size, 6, none⟩ = some (.int .i64 d))
    (first | exact KS.out _ st | exact KS.out _ KY.out)
    (first | (go_at_call 46; refine (KA.out _).mono ?_; rintro y wn ⟨gm, rfl, hgm, hr, hbn⟩; (first | replace hbn := undrew hbn | skip); have hs5 := st.2.2.size; replace st := KX.out _ _ st hbn; clear hbn))
  all_goals
    have e2 := st.1.cells.2.2
    have hgw : w.heap.size ≤ gm := by first | (simp at hgm; omega) | omega
    clear hgm
    go_wp2_with fail
    go_region_law (first | (go_simp; go_at_call 47; refine (KU.out _ gm (by exact hr)).mono ?_; rintro y w7 ⟨rfl, hb7⟩; replace hb7 := undrew hb7; have st7 := KX.out _ _ st hb7; have r7 := hr.next hb7; have e7 := st7.1.cells.2.2; obtain ⟨D, ho, hS⟩ := st7.1.own; obtain ⟨w8, hrun, ho8, hg8⟩ := ho.update law Try.underlying65 HK.out (key_of HN.out) (shE_mk c); rw [HSh.out] at hrun))
    all_goals
      go_wp2_with fail
      go_ret2
      exact ⟨gm, rfl, hgw, r7.grown hg8 (by omega), ⟨st7.1.blk.grown hg8 st7.1.ne, _, ho8, hS.put n _ ho8.isMap⟩, ((only_of_below st7.2.2).but _).trans hg8⟩
end Go.Proofs.Ythmlibapjhmdbaa
