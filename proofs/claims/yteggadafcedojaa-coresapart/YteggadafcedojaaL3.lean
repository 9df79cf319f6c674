/- The law CoresMore, walked, where the ranks are laid. -/
import Derived.Test.YteggadafcedojaaL2
namespace Go.Proofs.Yteggadafcedojaa
open Go.RowKit Go.Shelf

attribute [local go_sem] eq33 eq40

theorem or4 (a b c e m0 m1 m2 m3 : Nat) (w : World) (hF : Mk.W4 [a, b, c, e]) (hM : Mk.W4 [m0, m1, m2, m3]) :
    Calls Try.prog 27 #[.agg #[.int .u64 a, .int .u64 b, .int .u64 c, .int .u64 e], .agg #[.int .u64 m0, .int .u64 m1, .int .u64 m2, .int .u64 m3]] w fun x w' => x = .returned (.agg #[.int .u64 (Nat.lor a m0 : Nat), .int .u64 (Nat.lor b m1 : Nat), .int .u64 (Nat.lor c m2 : Nat), .int .u64 (Nat.lor e m3 : Nat)]) ∧ Below w.heap.size w w' :=
  or_any [a, b, c, e] [m0, m1, m2, m3] w hF hM

theorem bk_set {w : World} {g : Nat} {t : TypeId} {cs : Array Value} (h : Bk w g t cs) (i : Nat) (u : Value) (cs' : Array Value) (e : cs.setIfInBounds i u = cs') : Bk (w.setCell ⟨g, i, none⟩ u) g t cs' := by
  subst e; exact heap_setCell_same w g i _ t u h

set_option maxRecDepth 100000 in
set_option maxHeartbeats 2000000 in
theorem coresMore_ok {d : Int} {fid s p : Nat} {of : Nat → Nat} (hd : IsDist d fid s p of) (R t q a b c e m0 m1 m2 m3 : Nat) (w : World) (h : LOk s p) (hR : ROk R q) (hRt : R = t + 1) (hF : Mk.W4 [a, b, c, e]) (hM : Mk.W4 [m0, m1, m2, m3])
    (hf : R * q ≤ (fr [a, b, c, e] (upto of (s * p))).length) :
    Calls Try.prog 7 #[.agg #[.int .i64 s, .int .i64 p], .agg #[.int .u64 a, .int .u64 b, .int .u64 c, .int .u64 e, .int .i64 R, .int .i64 q, .int .i64 d], .agg #[.int .u64 m0, .int .u64 m1, .int .u64 m2, .int .u64 m3]] w fun x w' => x = .returned (.bool true) ∧ Below w.heap.size w w' := by
  have HO : Mk.W4 [Nat.lor a m0, Nat.lor b m1, Nat.lor c m2, Nat.lor e m3] := or_W4 hF hM
  have hf2 : R * q ≤ (fr [Nat.lor a m0, Nat.lor b m1, Nat.lor c m2, Nat.lor e m3] (upto of (s * p))).length := Nat.le_trans hf (fr_mono (fun x hx => or_has hF hM x hx) _)
  have A1 := Lib.hid (fun W => assign_ok hd R q a b c e W h hR hF hf)
  have A2 := Lib.hid (fun W => assign_ok hd R q _ _ _ _ W h hR HO hf2)
  have OR := Lib.hid (fun W => or4 a b c e m0 m1 m2 m3 W hF hM)
  have r1 := hR.1
  have r2 := hR.2.1
  have HRt := Lib.hid hRt
  have A3 : Hid (t = 0 → ∀ W, Calls Try.prog 19 #[.agg #[.int .i64 s, .int .i64 p], .agg #[.int .u64 a, .int .u64 b, .int .u64 c, .int .u64 e, .int .i64 t, .int .i64 q, .int .i64 d]] W fun e w' => e = .returned (.tuple #[.slice none 0 0, .int .i64 1]) ∧ Below W.heap.size W w') :=
    fun h0 W => assign_arg hd t q a b c e W h (.inl (.inl (by omega)))
  have A4 : Hid (1 ≤ t → ∀ W, Calls Try.prog 19 #[.agg #[.int .i64 s, .int .i64 p], .agg #[.int .u64 a, .int .u64 b, .int .u64 c, .int .u64 e, .int .i64 t, .int .i64 q, .int .i64 d]] W (Lays W (ranks (wished [a, b, c, e] of (s * p) (t * q)) t q) t)) :=
    fun h0 W => assign_ok hd t q a b c e W h ⟨h0, by omega, hR.2.2.1, hR.2.2.2⟩ hF (Nat.le_trans (Nat.mul_le_mul_right q (by omega)) hf)
  have ht : (R : Int) - 1 = (t : Int) := by omega
  have hRf := Lib.hid (fun i (hi : i < t) => ranks_fewer [a, b, c, e] of (s * p) t q i hi)
  clear hRt hd h hR hF hM hf hf2 HO
  have hb0 := (((Below.refl _ w).alloc (Nat.le_refl _) (.cells #[.int .i64 s, .int .i64 p] 23)).alloc (by simp) (.cells #[.int .u64 a, .int .u64 b, .int .u64 c, .int .u64 e, .int .i64 R, .int .i64 q, .int .i64 d] 45)).alloc (by simp; omega) (.cells #[.int .u64 m0, .int .u64 m1, .int .u64 m2, .int .u64 m3] 40)
  have k0 := ((Bk.new w 23 #[.int .i64 s, .int .i64 p]).alloc (.cells #[.int .u64 a, .int .u64 b, .int .u64 c, .int .u64 e, .int .i64 R, .int .i64 q, .int .i64 d] 45)).alloc (.cells #[.int .u64 m0, .int .u64 m1, .int .u64 m2, .int .u64 m3] 40)
  have km : Bk (((w.alloc (.cells #[.int .i64 s, .int .i64 p] 23)).alloc (.cells #[.int .u64 a, .int .u64 b, .int .u64 c, .int .u64 e, .int .i64 R, .int .i64 q, .int .i64 d] 45)).alloc (.cells #[.int .u64 m0, .int .u64 m1, .int .u64 m2, .int .u64 m3] 40)) (w.heap.size + 1 + 1) 40 #[.int .u64 m0, .int .u64 m1, .int .u64 m2, .int .u64 m3] := by
    have := Bk.new ((w.alloc (.cells #[.int .i64 s, .int .i64 p] 23)).alloc (.cells #[.int .u64 a, .int .u64 b, .int .u64 c, .int .u64 e, .int .i64 R, .int .i64 q, .int .i64 d] 45)) 40 #[.int .u64 m0, .int .u64 m1, .int .u64 m2, .int .u64 m3]
    rw [size_alloc, size_alloc] at this
    exact this
  go_enter Try.func7, Try.ntmps7
  go_wp2_with fail
  refine (wish_any _ _ _ _ _ _ _ _).mono ?_
  rintro x w1 ⟨rfl, hb1⟩
  replace hb0 := bmore hb0 hb1
  replace k0 := (k0.next hb1).alloc (.cells #[.int .u64 a, .int .u64 b, .int .u64 c, .int .u64 e, .int .i64 R, .int .i64 q, .int .i64 d] 50)
  replace km := (km.next hb1).alloc (.cells #[.int .u64 a, .int .u64 b, .int .u64 c, .int .u64 e, .int .i64 R, .int .i64 q, .int .i64 d] 50)
  have k1 := Bk.new w1 50 #[.int .u64 a, .int .u64 b, .int .u64 c, .int .u64 e, .int .i64 R, .int .i64 q, .int .i64 d]
  replace hb0 := hb0.alloc hb0.size (.cells #[.int .u64 a, .int .u64 b, .int .u64 c, .int .u64 e, .int .i64 R, .int .i64 q, .int .i64 d] 50)
  clear hb1
  go_wp2_with fail
  generalize w1.alloc (.cells #[.int .u64 a, .int .u64 b, .int .u64 c, .int .u64 e, .int .i64 R, .int .i64 q, .int .i64 d] 50) = W1 at *
  have hl0 := k0.lt
  have hl1 := k1.lt
  have hcs := cells9 k0 k1
  go_region_held3 (fun W => W.cell? ⟨w.heap.size, 0, none⟩ = some (.int .i64 s) ∧ W.cell? ⟨w.heap.size, 1, none⟩ = some (.int .i64 p) ∧ W.cell? ⟨w1.heap.size, 0, none⟩ = some (.int .u64 a) ∧ W.cell? ⟨w1.heap.size, 1, none⟩ = some (.int .u64 b) ∧ W.cell? ⟨w1.heap.size, 2, none⟩ = some (.int .u64 c) ∧ W.cell? ⟨w1.heap.size, 3, none⟩ = some (.int .u64 e) ∧ W.cell? ⟨w1.heap.size, 4, none⟩ = some (.int .i64 R) ∧ W.cell? ⟨w1.heap.size, 5, none⟩ = some (.int .i64 q) ∧ W.cell? ⟨w1.heap.size, 6, none⟩ = some (.int .i64 d))
    (first | exact hcs | exact cells9 y0 y1 | exact cells9 x0 x1)
    (first | (go_at_call 9; refine (own_any _ _ _).mono ?_; rintro x w2 ⟨rfl, hb2⟩; have hb2' := undrew hb2; have x0 := k0.below hb2' hl0; have x1 := k1.below hb2' hl1; have xm := km.next hb2'; have hb4 := bmore hb0 hb2') | (go_at_call 19; refine (A1.out _).mono ?_; rintro x w3 ⟨g1, rfl, _, ra, hb3⟩; have y0 := x0.next hb3; have y1 := x1.next hb3; have ym := xm.next hb3; have hb5 := bmore hb4 hb3))
  clear hcs k0 k1 km x0 x1 xm hb0 hb4 hb3 hb2 hb2' hl0 hl1
  have hc9 := cells9 y0 y1
  obtain ⟨_, _, d0, d1, d2, d3, d4, d5, d6⟩ := hc9
  have z0 := y0.alloc (.cells #[.int .u64 a, .int .u64 b, .int .u64 c, .int .u64 e, .int .i64 R, .int .i64 q, .int .i64 d] 50)
  have z1 := y1.alloc (.cells #[.int .u64 a, .int .u64 b, .int .u64 c, .int .u64 e, .int .i64 R, .int .i64 q, .int .i64 d] 50)
  have zm := ym.alloc (.cells #[.int .u64 a, .int .u64 b, .int .u64 c, .int .u64 e, .int .i64 R, .int .i64 q, .int .i64 d] 50)
  have zr := ra.alloc (.cells #[.int .u64 a, .int .u64 b, .int .u64 c, .int .u64 e, .int .i64 R, .int .i64 q, .int .i64 d] 50)
  have zy := Bk.new w3 50 #[.int .u64 a, .int .u64 b, .int .u64 c, .int .u64 e, .int .i64 R, .int .i64 q, .int .i64 d]
  have hb6 := hb5.alloc hb5.size (.cells #[.int .u64 a, .int .u64 b, .int .u64 c, .int .u64 e, .int .i64 R, .int .i64 q, .int .i64 d] 50)
  have e0 := z1.cell 0 _ rfl
  have e1 := z1.cell 1 _ rfl
  have e2 := z1.cell 2 _ rfl
  have e3 := z1.cell 3 _ rfl
  have n0 := zm.cell 0 _ rfl
  have n1 := zm.cell 1 _ rfl
  have n2 := zm.cell 2 _ rfl
  have n3 := zm.cell 3 _ rfl
  have hl0 := y0.lt
  have hl1 := y1.lt
  have hlr := ra.lt
  go_wp2_with fail
  clear d0 d1 d2 d3 d4 d5 d6 e0 e1 e2 e3 n0 n1 n2 n3 y0 y1 ym ra hb5
  refine (OR.out _).mono ?_
  rintro x w4 ⟨rfl, hb7⟩
  replace z0 := z0.next hb7
  replace z1 := z1.next hb7
  replace zr := zr.next hb7
  replace zy := zy.next hb7
  replace hb6 := bmore hb6 hb7
  clear zm hb7
  have e0 := zy.cell 0 _ rfl
  have e1 := zy.cell 1 _ rfl
  have e2 := zy.cell 2 _ rfl
  have e3 := zy.cell 3 _ rfl
  have f0 := zy.frozen 0
  have f1 := zy.frozen 1
  have f2 := zy.frozen 2
  have f3 := zy.frozen 3
  go_wp2_with fail
  clear e0 e1 e2 e3 f0 f1 f2 f3
  replace z0 := bk_far (bk_far (bk_far (bk_far z0 (a := ⟨w3.heap.size, 0, none⟩) (by simp; omega) (.int .u64 ((a ||| m0 : Nat) : Int))) (a := ⟨w3.heap.size, 1, none⟩) (by simp; omega) (.int .u64 ((b ||| m1 : Nat) : Int))) (a := ⟨w3.heap.size, 2, none⟩) (by simp; omega) (.int .u64 ((c ||| m2 : Nat) : Int))) (a := ⟨w3.heap.size, 3, none⟩) (by simp; omega) (.int .u64 ((e ||| m3 : Nat) : Int))
  replace z1 := bk_far (bk_far (bk_far (bk_far z1 (a := ⟨w3.heap.size, 0, none⟩) (by simp; omega) (.int .u64 ((a ||| m0 : Nat) : Int))) (a := ⟨w3.heap.size, 1, none⟩) (by simp; omega) (.int .u64 ((b ||| m1 : Nat) : Int))) (a := ⟨w3.heap.size, 2, none⟩) (by simp; omega) (.int .u64 ((c ||| m2 : Nat) : Int))) (a := ⟨w3.heap.size, 3, none⟩) (by simp; omega) (.int .u64 ((e ||| m3 : Nat) : Int))
  replace zr := (((zr.setOther (a := ⟨w3.heap.size, 0, none⟩) (.int .u64 ((a ||| m0 : Nat) : Int)) (by simp; omega)).setOther (a := ⟨w3.heap.size, 1, none⟩) (.int .u64 ((b ||| m1 : Nat) : Int)) (by simp; omega)).setOther (a := ⟨w3.heap.size, 2, none⟩) (.int .u64 ((c ||| m2 : Nat) : Int)) (by simp; omega)).setOther (a := ⟨w3.heap.size, 3, none⟩) (.int .u64 ((e ||| m3 : Nat) : Int)) (by simp; omega)
  replace zy := bk_set (bk_set (bk_set (bk_set zy 0 (.int .u64 ((a ||| m0 : Nat) : Int)) _ rfl) 1 (.int .u64 ((b ||| m1 : Nat) : Int)) _ rfl) 2 (.int .u64 ((c ||| m2 : Nat) : Int)) _ rfl) 3 (.int .u64 ((e ||| m3 : Nat) : Int)) #[.int .u64 ((a ||| m0 : Nat) : Int), .int .u64 ((b ||| m1 : Nat) : Int), .int .u64 ((c ||| m2 : Nat) : Int), .int .u64 ((e ||| m3 : Nat) : Int), .int .i64 R, .int .i64 q, .int .i64 d] rfl
  have hs3 : w.heap.size ≤ w3.heap.size := by omega
  replace hb6 := (((hb6.setCell (p := ⟨w3.heap.size, 0, none⟩) hs3 (.int .u64 ((a ||| m0 : Nat) : Int))).setCell (p := ⟨w3.heap.size, 1, none⟩) hs3 (.int .u64 ((b ||| m1 : Nat) : Int))).setCell (p := ⟨w3.heap.size, 2, none⟩) hs3 (.int .u64 ((c ||| m2 : Nat) : Int))).setCell (p := ⟨w3.heap.size, 3, none⟩) hs3 (.int .u64 ((e ||| m3 : Nat) : Int))
  generalize (((w4.setCell ⟨w3.heap.size, 0, none⟩ (.int .u64 ((a ||| m0 : Nat) : Int))).setCell ⟨w3.heap.size, 1, none⟩ (.int .u64 ((b ||| m1 : Nat) : Int))).setCell ⟨w3.heap.size, 2, none⟩ (.int .u64 ((c ||| m2 : Nat) : Int))).setCell ⟨w3.heap.size, 3, none⟩ (.int .u64 ((e ||| m3 : Nat) : Int)) = W5 at *
  have hl0 := z0.lt
  have hl1 := z1.lt
  have hly := zy.lt
  have hcs := cells9 z0 zy
  go_region_held3 (fun W => W.cell? ⟨w.heap.size, 0, none⟩ = some (.int .i64 s) ∧ W.cell? ⟨w.heap.size, 1, none⟩ = some (.int .i64 p) ∧ W.cell? ⟨w3.heap.size, 0, none⟩ = some (.int .u64 ((a ||| m0 : Nat) : Int)) ∧ W.cell? ⟨w3.heap.size, 1, none⟩ = some (.int .u64 ((b ||| m1 : Nat) : Int)) ∧ W.cell? ⟨w3.heap.size, 2, none⟩ = some (.int .u64 ((c ||| m2 : Nat) : Int)) ∧ W.cell? ⟨w3.heap.size, 3, none⟩ = some (.int .u64 ((e ||| m3 : Nat) : Int)) ∧ W.cell? ⟨w3.heap.size, 4, none⟩ = some (.int .i64 R) ∧ W.cell? ⟨w3.heap.size, 5, none⟩ = some (.int .i64 q) ∧ W.cell? ⟨w3.heap.size, 6, none⟩ = some (.int .i64 d))
    (first | exact hcs | exact cells9 y0 yy | exact cells9 x0 xy)
    (first | (go_at_call 9; refine (own_any _ _ _).mono ?_; rintro x w6 ⟨rfl, hb7⟩; have hb7' := undrew hb7; have x0 := z0.below hb7' hl0; have x1 := z1.below hb7' hl1; have xy := zy.below hb7' hly; have xr := zr.next hb7'; have hb8 := bmore hb6 hb7') | (go_at_call 19; refine (A2.out _).mono ?_; rintro x w7 ⟨g2, rfl, _, _, hb9⟩; have y0 := x0.next hb9; have y1 := x1.next hb9; have yy := xy.next hb9; have yr := xr.next hb9; have hb5 := bmore hb8 hb9))
  clear hcs x0 x1 xy xr z0 z1 zy zr hb6 hb7 hb7' hb8 hb9 hl0 hl1 hly yy
  have hc9 := cells9 y0 y1
  obtain ⟨_, _, d0, d1, d2, d3, d4, d5, d6⟩ := hc9
  have e4 := (y1.alloc (.cells #[.int .u64 a, .int .u64 b, .int .u64 c, .int .u64 e, .int .i64 R, .int .i64 q, .int .i64 d] 50)).cell 4 _ rfl
  have hs5 := hb5.size
  go_wp2_with fail
  clear e4 d0 d1 d2 d3 d4 d5 d6 hs5
  have z0 := y0.alloc (.cells #[.int .u64 a, .int .u64 b, .int .u64 c, .int .u64 e, .int .i64 t, .int .i64 q, .int .i64 d] 50)
  have zr := yr.alloc (.cells #[.int .u64 a, .int .u64 b, .int .u64 c, .int .u64 e, .int .i64 t, .int .i64 q, .int .i64 d] 50)
  have zy := Bk.new w7 50 #[.int .u64 a, .int .u64 b, .int .u64 c, .int .u64 e, .int .i64 t, .int .i64 q, .int .i64 d]
  have hb6 := hb5.alloc hb5.size (.cells #[.int .u64 a, .int .u64 b, .int .u64 c, .int .u64 e, .int .i64 t, .int .i64 q, .int .i64 d] 50)
  generalize w7.alloc (.cells #[.int .u64 a, .int .u64 b, .int .u64 c, .int .u64 e, .int .i64 t, .int .i64 q, .int .i64 d] 50) = W6 at *
  clear y0 y1 yr hb5
  have hl0 := z0.lt
  have hly := zy.lt
  have hcs := cells9 z0 zy
  by_cases ht0 : t = 0
  · have A5 := Lib.hid (A3.out ht0)
    have hlt1 : (t : Int) < 1 := by omega
    clear ht0
    go_region_held3 (fun W => W.cell? ⟨w.heap.size, 0, none⟩ = some (.int .i64 s) ∧ W.cell? ⟨w.heap.size, 1, none⟩ = some (.int .i64 p) ∧ W.cell? ⟨w7.heap.size, 0, none⟩ = some (.int .u64 a) ∧ W.cell? ⟨w7.heap.size, 1, none⟩ = some (.int .u64 b) ∧ W.cell? ⟨w7.heap.size, 2, none⟩ = some (.int .u64 c) ∧ W.cell? ⟨w7.heap.size, 3, none⟩ = some (.int .u64 e) ∧ W.cell? ⟨w7.heap.size, 4, none⟩ = some (.int .i64 t) ∧ W.cell? ⟨w7.heap.size, 5, none⟩ = some (.int .i64 q) ∧ W.cell? ⟨w7.heap.size, 6, none⟩ = some (.int .i64 d))
      (first | exact hcs | exact cells9 y0 yy | exact cells9 x0 xy)
      (first | (go_at_call 9; refine (own_any _ _ _).mono ?_; rintro x w8 ⟨rfl, hb7⟩; have hb7' := undrew hb7; have x0 := z0.below hb7' hl0; have xy := zy.below hb7' hly; have hb8 := bmore hb6 hb7') | (go_at_call 19; refine (A5.out _).mono ?_; rintro x w9 ⟨rfl, hb9⟩; have y0 := x0.next hb9; have yy := xy.next hb9; have hb5 := bmore hb8 hb9))
    clear hcs x0 xy z0 zy zr hb6 hb7 hb7' hb8 hb9 hl0 hly y0
    have e4 := yy.cell 4 _ rfl
    go_wp2_with fail
    refine (live_any _).mono ?_
    rintro x w10 ⟨rfl, hb10⟩
    replace hb5 := bmore hb5 hb10
    clear hb10 e4 yy
    go_wp2_with fail
    go_ret
    exact ⟨rfl, hb5⟩
  · have ht1 : 1 ≤ t := by omega
    have A5 := Lib.hid (A4.out ht1)
    have hd1 : decide ((t : Int) < 1) = false := by simp; omega
    clear ht0
    go_region_held3 (fun W => W.cell? ⟨w.heap.size, 0, none⟩ = some (.int .i64 s) ∧ W.cell? ⟨w.heap.size, 1, none⟩ = some (.int .i64 p) ∧ W.cell? ⟨w7.heap.size, 0, none⟩ = some (.int .u64 a) ∧ W.cell? ⟨w7.heap.size, 1, none⟩ = some (.int .u64 b) ∧ W.cell? ⟨w7.heap.size, 2, none⟩ = some (.int .u64 c) ∧ W.cell? ⟨w7.heap.size, 3, none⟩ = some (.int .u64 e) ∧ W.cell? ⟨w7.heap.size, 4, none⟩ = some (.int .i64 t) ∧ W.cell? ⟨w7.heap.size, 5, none⟩ = some (.int .i64 q) ∧ W.cell? ⟨w7.heap.size, 6, none⟩ = some (.int .i64 d))
      (first | exact hcs | exact cells9 y0 yy | exact cells9 x0 xy)
      (first | (go_at_call 9; refine (own_any _ _ _).mono ?_; rintro x w8 ⟨rfl, hb7⟩; have hb7' := undrew hb7; have x0 := z0.below hb7' hl0; have xy := zy.below hb7' hly; have xr := zr.next hb7'; have hb8 := bmore hb6 hb7') | (go_at_call 19; refine (A5.out _).mono ?_; rintro x w9 ⟨g3, rfl, _, rb, hb9⟩; have y0 := x0.next hb9; have yy := xy.next hb9; have yr := xr.next hb9; have hb5 := bmore hb8 hb9))
    clear hcs x0 xy z0 zy zr hb6 hb7 hb7' hb8 hb9 hl0 hly y0 xr A1 A2 A3 A4 A5 OR
    have e4 := yy.cell 4 _ rfl
    rw [HRt.out] at yr
    have HB := Lib.hid (ranks_W4 (wished [a, b, c, e] of (s * p) (t * q)) t q)
    have HA := Lib.hid (ranks_W4 (wished [a, b, c, e] of (s * p) ((t + 1) * q)) (t + 1) q)
    have HBl := Lib.hid (ranks_len (wished [a, b, c, e] of (s * p) (t * q)) t q)
    have HAl := Lib.hid (ranks_len (wished [a, b, c, e] of (s * p) ((t + 1) * q)) (t + 1) q)
    generalize ranks (wished [a, b, c, e] of (s * p) (t * q)) t q = msb at *
    generalize ranks (wished [a, b, c, e] of (s * p) ((t + 1) * q)) (t + 1) q = msa at *
    go_wp2_with fail
    clear e4 yy
    go_loopw [16] (fun i wr => ∃ k : Nat, k ≤ t ∧ i = .int .i64 k ∧ Below w9.heap.size w9 wr)
      (fun i _ => t - (intOf i).toNat)
    case atStart => exact ⟨0, Nat.zero_le _, rfl, Below.refl _ _⟩
    case round =>
      obtain ⟨k, hk, rfl, hb⟩ := hrel
      by_cases hlt : k < t
      · obtain ⟨m, hm⟩ : ∃ m, msb[k]? = some m := ⟨msb[k]'(by rw [HBl.out]; exact hlt), List.getElem?_eq_getElem _⟩
        have hm2 : msa[k]? = some m := by rw [← hRf.out k hlt]; exact hm
        have rb9 := rb.below hb rb.lt
        have ra9 := yr.below hb yr.lt
        have fb : ∀ j, j < 4 → wr.cell? ⟨g3, k * 4 + j, none⟩ = some (.int .u64 (Mk.nth m j : Nat)) := fun j hj => by
          rw [rb9.cell (k * 4 + j) (by rw [flat_len (fun x hx => (HB.out x hx).1), HBl.out]; omega), flat_nth (fun x hx => (HB.out x hx).1) (by rw [HBl.out]; exact hlt) hj, List.getD_eq_getElem?_getD, hm]; rfl
        have fa : ∀ j, j < 4 → wr.cell? ⟨g1, k * 4 + j, none⟩ = some (.int .u64 (Mk.nth m j : Nat)) := fun j hj => by
          rw [ra9.cell (k * 4 + j) (by rw [flat_len (fun x hx => (HA.out x hx).1), HAl.out]; omega), flat_nth (fun x hx => (HA.out x hx).1) (by rw [HAl.out]; omega) hj, List.getD_eq_getElem?_getD, hm2]; rfl
        have b0 := fb 0 (by decide)
        have b1 := fb 1 (by decide)
        have b2 := fb 2 (by decide)
        have b3 := fb 3 (by decide)
        have a0 := fa 0 (by decide)
        have a1 := fa 1 (by decide)
        have a2 := fa 2 (by decide)
        have a3 := fa 3 (by decide)
        simp only [Nat.add_zero] at b0 a0
        have HMM := Lib.hid hm
        have HMM2 := Lib.hid hm2
        clear fb fa hm hm2
        have i0 : (0 : Int) ≤ (k : Int) := by omega
        have i1 : (k : Int) < (t : Int) := by omega
        have i2 : (k : Int) < (R : Int) := by omega
        go_wp2_with fail
        go_quiet (fail)
        go_wp2_with fail
        go_roundw
        case rel => exact ⟨k + 1, by omega, by go_num, below_drewN' hb _⟩
        case measure => simp [intOf]; omega
      · obtain rfl : k = t := by omega
        go_wp2_with fail
        refine (live_any _).mono ?_
        rintro x w10 ⟨rfl, hb10⟩
        go_wp2_with fail
        go_ret
        exact ⟨rfl, (hb5.trans (hb.mono hb5.size)).trans (hb10.mono (Nat.le_trans hb5.size hb.size))⟩
end Go.Proofs.Yteggadafcedojaa
