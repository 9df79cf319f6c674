/- The law MaskAlgebra, walked. -/
import Derived.Test.YthmlibapjhmdbaaDoorW25
import Derived.BigQuiet
namespace Go.Proofs.YthmlibapjhmdbaaDoor
open Go.RowKit Go.Shelf

attribute [local go_sem] eq33 eq40
theorem Bk.four {w : World} {g : Nat} {t : TypeId} {a b c d : Value} (h : Bk w g t #[a, b, c, d]) : w.cell? ⟨g, 0, none⟩ = some a ∧ w.cell? ⟨g, 1, none⟩ = some b ∧ w.cell? ⟨g, 2, none⟩ = some c ∧ w.cell? ⟨g, 3, none⟩ = some d :=
  ⟨h.cell 0 _ rfl, h.cell 1 _ rfl, h.cell 2 _ rfl, h.cell 3 _ rfl⟩
theorem inNonempty (B : Nat) (w : World) : Nonempty (In B w) := ⟨⟨w, Below.refl _ _⟩⟩

set_option maxRecDepth 100000 in
set_option maxHeartbeats 4000000 in
theorem maskAlgebra_walk (x0 x1 x2 x3 y0 y1 y2 y3 z0 z1 z2 z3 p0 p1 p2 p3 q0 q1 q2 q3 r0 r1 r2 r3 s0 s1 s2 s3 t0 t1 t2 t3 u0 u1 u2 u3 v0 v1 v2 v3 cp cq cx cy : Nat) (w : World) (G : Glob w) (hc : cp + cq = cx + cy) (h1 : cp ≤ 256) (h2 : cq ≤ 256) (h3 : cx ≤ 256) (h4 : cy ≤ 256)
    (Kaxy : ∀ V : World, Calls Tryd.prog 24 #[.agg #[.int .u64 x0, .int .u64 x1, .int .u64 x2, .int .u64 x3], .agg #[.int .u64 y0, .int .u64 y1, .int .u64 y2, .int .u64 y3]] V (fun e w' => e = .returned (.agg #[.int .u64 p0, .int .u64 p1, .int .u64 p2, .int .u64 p3]) ∧ Below V.heap.size V w'))
    (Kayx : ∀ V : World, Calls Tryd.prog 24 #[.agg #[.int .u64 y0, .int .u64 y1, .int .u64 y2, .int .u64 y3], .agg #[.int .u64 x0, .int .u64 x1, .int .u64 x2, .int .u64 x3]] V (fun e w' => e = .returned (.agg #[.int .u64 p0, .int .u64 p1, .int .u64 p2, .int .u64 p3]) ∧ Below V.heap.size V w'))
    (Koxy : ∀ V : World, Calls Tryd.prog 26 #[.agg #[.int .u64 x0, .int .u64 x1, .int .u64 x2, .int .u64 x3], .agg #[.int .u64 y0, .int .u64 y1, .int .u64 y2, .int .u64 y3]] V (fun e w' => e = .returned (.agg #[.int .u64 q0, .int .u64 q1, .int .u64 q2, .int .u64 q3]) ∧ Below V.heap.size V w'))
    (Koyx : ∀ V : World, Calls Tryd.prog 26 #[.agg #[.int .u64 y0, .int .u64 y1, .int .u64 y2, .int .u64 y3], .agg #[.int .u64 x0, .int .u64 x1, .int .u64 x2, .int .u64 x3]] V (fun e w' => e = .returned (.agg #[.int .u64 q0, .int .u64 q1, .int .u64 q2, .int .u64 q3]) ∧ Below V.heap.size V w'))
    (Koyz : ∀ V : World, Calls Tryd.prog 26 #[.agg #[.int .u64 y0, .int .u64 y1, .int .u64 y2, .int .u64 y3], .agg #[.int .u64 z0, .int .u64 z1, .int .u64 z2, .int .u64 z3]] V (fun e w' => e = .returned (.agg #[.int .u64 r0, .int .u64 r1, .int .u64 r2, .int .u64 r3]) ∧ Below V.heap.size V w'))
    (Kaxr : ∀ V : World, Calls Tryd.prog 24 #[.agg #[.int .u64 x0, .int .u64 x1, .int .u64 x2, .int .u64 x3], .agg #[.int .u64 r0, .int .u64 r1, .int .u64 r2, .int .u64 r3]] V (fun e w' => e = .returned (.agg #[.int .u64 s0, .int .u64 s1, .int .u64 s2, .int .u64 s3]) ∧ Below V.heap.size V w'))
    (Kaxz : ∀ V : World, Calls Tryd.prog 24 #[.agg #[.int .u64 x0, .int .u64 x1, .int .u64 x2, .int .u64 x3], .agg #[.int .u64 z0, .int .u64 z1, .int .u64 z2, .int .u64 z3]] V (fun e w' => e = .returned (.agg #[.int .u64 t0, .int .u64 t1, .int .u64 t2, .int .u64 t3]) ∧ Below V.heap.size V w'))
    (Kopt : ∀ V : World, Calls Tryd.prog 26 #[.agg #[.int .u64 p0, .int .u64 p1, .int .u64 p2, .int .u64 p3], .agg #[.int .u64 t0, .int .u64 t1, .int .u64 t2, .int .u64 t3]] V (fun e w' => e = .returned (.agg #[.int .u64 s0, .int .u64 s1, .int .u64 s2, .int .u64 s3]) ∧ Below V.heap.size V w'))
    (Kmxr : ∀ V : World, Calls Tryd.prog 28 #[.agg #[.int .u64 x0, .int .u64 x1, .int .u64 x2, .int .u64 x3], .agg #[.int .u64 r0, .int .u64 r1, .int .u64 r2, .int .u64 r3]] V (fun e w' => e = .returned (.agg #[.int .u64 v0, .int .u64 v1, .int .u64 v2, .int .u64 v3]) ∧ Below V.heap.size V w'))
    (Kmxy : ∀ V : World, Calls Tryd.prog 28 #[.agg #[.int .u64 x0, .int .u64 x1, .int .u64 x2, .int .u64 x3], .agg #[.int .u64 y0, .int .u64 y1, .int .u64 y2, .int .u64 y3]] V (fun e w' => e = .returned (.agg #[.int .u64 u0, .int .u64 u1, .int .u64 u2, .int .u64 u3]) ∧ Below V.heap.size V w'))
    (Kmuz : ∀ V : World, Calls Tryd.prog 28 #[.agg #[.int .u64 u0, .int .u64 u1, .int .u64 u2, .int .u64 u3], .agg #[.int .u64 z0, .int .u64 z1, .int .u64 z2, .int .u64 z3]] V (fun e w' => e = .returned (.agg #[.int .u64 v0, .int .u64 v1, .int .u64 v2, .int .u64 v3]) ∧ Below V.heap.size V w'))
    (Kcp : ∀ V : World, Calls Tryd.prog 18 #[.agg #[.int .u64 p0, .int .u64 p1, .int .u64 p2, .int .u64 p3]] V (fun e w' => e = .returned (.int .i64 cp) ∧ Below V.heap.size V w'))
    (Kcq : ∀ V : World, Calls Tryd.prog 18 #[.agg #[.int .u64 q0, .int .u64 q1, .int .u64 q2, .int .u64 q3]] V (fun e w' => e = .returned (.int .i64 cq) ∧ Below V.heap.size V w'))
    (Kcx : ∀ V : World, Calls Tryd.prog 18 #[.agg #[.int .u64 x0, .int .u64 x1, .int .u64 x2, .int .u64 x3]] V (fun e w' => e = .returned (.int .i64 cx) ∧ Below V.heap.size V w'))
    (Kcy : ∀ V : World, Calls Tryd.prog 18 #[.agg #[.int .u64 y0, .int .u64 y1, .int .u64 y2, .int .u64 y3]] V (fun e w' => e = .returned (.int .i64 cy) ∧ Below V.heap.size V w'))
    (Koup : ∀ V : World, Calls Tryd.prog 26 #[.agg #[.int .u64 u0, .int .u64 u1, .int .u64 u2, .int .u64 u3], .agg #[.int .u64 p0, .int .u64 p1, .int .u64 p2, .int .u64 p3]] V (fun e w' => e = .returned (.agg #[.int .u64 x0, .int .u64 x1, .int .u64 x2, .int .u64 x3]) ∧ Below V.heap.size V w'))
    (Kauy : ∀ V : World, Calls Tryd.prog 24 #[.agg #[.int .u64 u0, .int .u64 u1, .int .u64 u2, .int .u64 u3], .agg #[.int .u64 y0, .int .u64 y1, .int .u64 y2, .int .u64 y3]] V (fun e w' => e = .returned (.agg #[.int .u64 0, .int .u64 0, .int .u64 0, .int .u64 0]) ∧ Below V.heap.size V w'))
    (KL : ∀ V : World, Glob V → Calls Tryd.prog 9 #[] V (fun e w' => e = .returned (.bool true) ∧ Below V.heap.size V w')) :
    Calls Tryd.prog 7 #[.agg #[.int .u64 x0, .int .u64 x1, .int .u64 x2, .int .u64 x3], .agg #[.int .u64 y0, .int .u64 y1, .int .u64 y2, .int .u64 y3], .agg #[.int .u64 z0, .int .u64 z1, .int .u64 z2, .int .u64 z3]] w fun e w' => e = .returned (.bool true) ∧ Below w.heap.size w w' := by
  replace KL := Lib.hid KL
  replace Kaxy := Lib.hid Kaxy
  replace Kayx := Lib.hid Kayx
  replace Koxy := Lib.hid Koxy
  replace Koyx := Lib.hid Koyx
  replace Koyz := Lib.hid Koyz
  replace Kaxr := Lib.hid Kaxr
  replace Kaxz := Lib.hid Kaxz
  replace Kopt := Lib.hid Kopt
  replace Kmxr := Lib.hid Kmxr
  replace Kmxy := Lib.hid Kmxy
  replace Kmuz := Lib.hid Kmuz
  replace Kcp := Lib.hid Kcp
  replace Kcq := Lib.hid Kcq
  replace Kcx := Lib.hid Kcx
  replace Kcy := Lib.hid Kcy
  replace Koup := Lib.hid Koup
  replace Kauy := Lib.hid Kauy
  have hsum : (((cp : Int) + cq == (cx : Int) + cy)) = true := by rw [beq_iff_eq]; omega
  replace hc := Lib.hid hc
  have hb0 := (((Below.refl _ w).alloc (Nat.le_refl _) (.cells #[.int .u64 x0, .int .u64 x1, .int .u64 x2, .int .u64 x3] 24)).alloc (by simp) (.cells #[.int .u64 y0, .int .u64 y1, .int .u64 y2, .int .u64 y3] 24)).alloc (by simp; omega) (.cells #[.int .u64 z0, .int .u64 z1, .int .u64 z2, .int .u64 z3] 24)
  have k0 := ((Bk.new w 24 #[.int .u64 x0, .int .u64 x1, .int .u64 x2, .int .u64 x3]).alloc (.cells #[.int .u64 y0, .int .u64 y1, .int .u64 y2, .int .u64 y3] 24)).alloc (.cells #[.int .u64 z0, .int .u64 z1, .int .u64 z2, .int .u64 z3] 24)
  have k1 := (Bk.new (w.alloc (.cells #[.int .u64 x0, .int .u64 x1, .int .u64 x2, .int .u64 x3] 24)) 24 #[.int .u64 y0, .int .u64 y1, .int .u64 y2, .int .u64 y3]).alloc (.cells #[.int .u64 z0, .int .u64 z1, .int .u64 z2, .int .u64 z3] 24)
  have k2 := Bk.new ((w.alloc (.cells #[.int .u64 x0, .int .u64 x1, .int .u64 x2, .int .u64 x3] 24)).alloc (.cells #[.int .u64 y0, .int .u64 y1, .int .u64 y2, .int .u64 y3] 24)) 24 #[.int .u64 z0, .int .u64 z1, .int .u64 z2, .int .u64 z3]
  simp only [size_alloc] at k1 k2
  go_enter Tryd.func7, Tryd.ntmps7
  go_wp2_with fail
  refine (own_any _ _ _ _ _).mono ?_
  rintro e w1 ⟨rfl, hb⟩
  replace hb0 := bmore hb0 hb; replace k0 := k0.next hb; replace k1 := k1.next hb; replace k2 := k2.next hb; clear hb
  have hx : Below w1.heap.size w1 (w1.alloc (.cells #[.int .u64 x0, .int .u64 x1, .int .u64 x2, .int .u64 x3] 27)) := (Below.refl _ _).alloc (Nat.le_refl _) _
  have j0 := Bk.new w1 27 #[.int .u64 x0, .int .u64 x1, .int .u64 x2, .int .u64 x3]
  replace hb0 := bmore hb0 hx; replace k0 := k0.next hx; replace k1 := k1.next hx; replace k2 := k2.next hx; clear hx
  obtain ⟨r0, r1, r2, r3⟩ := k1.four
  go_wp2_with fail
  clear r0 r1 r2 r3
  refine (own_any _ _ _ _ _).mono ?_
  rintro e w2 ⟨rfl, hb⟩
  replace hb0 := bmore hb0 hb; replace j0 := j0.next hb; replace k2 := k2.next hb; clear hb
  have hx : Below w2.heap.size w2 (w2.alloc (.cells #[.int .u64 y0, .int .u64 y1, .int .u64 y2, .int .u64 y3] 27)) := (Below.refl _ _).alloc (Nat.le_refl _) _
  have j1 := Bk.new w2 27 #[.int .u64 y0, .int .u64 y1, .int .u64 y2, .int .u64 y3]
  replace hb0 := bmore hb0 hx; replace j0 := j0.next hx; replace k2 := k2.next hx; clear hx
  obtain ⟨r0, r1, r2, r3⟩ := k2.four
  go_wp2_with fail
  clear r0 r1 r2 r3 k0 k1 k2
  refine (own_any _ _ _ _ _).mono ?_
  rintro e w3 ⟨rfl, hb⟩
  replace hb0 := bmore hb0 hb; replace j0 := j0.next hb; replace j1 := j1.next hb; clear hb
  have hx : Below w3.heap.size w3 (w3.alloc (.cells #[.int .u64 z0, .int .u64 z1, .int .u64 z2, .int .u64 z3] 27)) := (Below.refl _ _).alloc (Nat.le_refl _) _
  have j2 := Bk.new w3 27 #[.int .u64 z0, .int .u64 z1, .int .u64 z2, .int .u64 z3]
  replace hb0 := bmore hb0 hx; replace j0 := j0.next hx; replace j1 := j1.next hx; clear hx
  go_wp2_with fail
  generalize w3.alloc (.cells #[.int .u64 z0, .int .u64 z1, .int .u64 z2, .int .u64 z3] 27) = W at *
  have X0 := In.cell (B := W.heap.size) j0.lt (j0.cell 0 _ rfl)
  have X1 := In.cell (B := W.heap.size) j0.lt (j0.cell 1 _ rfl)
  have X2 := In.cell (B := W.heap.size) j0.lt (j0.cell 2 _ rfl)
  have X3 := In.cell (B := W.heap.size) j0.lt (j0.cell 3 _ rfl)
  have Y0 := In.cell (B := W.heap.size) j1.lt (j1.cell 0 _ rfl)
  have Y1 := In.cell (B := W.heap.size) j1.lt (j1.cell 1 _ rfl)
  have Y2 := In.cell (B := W.heap.size) j1.lt (j1.cell 2 _ rfl)
  have Y3 := In.cell (B := W.heap.size) j1.lt (j1.cell 3 _ rfl)
  have Z0 := In.cell (B := W.heap.size) j2.lt (j2.cell 0 _ rfl)
  have Z1 := In.cell (B := W.heap.size) j2.lt (j2.cell 1 _ rfl)
  have Z2 := In.cell (B := W.heap.size) j2.lt (j2.cell 2 _ rfl)
  have Z3 := In.cell (B := W.heap.size) j2.lt (j2.cell 3 _ rfl)
  have hIn := inNonempty W.heap.size W
  refine region_in W.heap.size (by kernel_rfl) (by kernel_rfl) ?_
  repeat (go_big_quiet_step (first | (go_at_call 24; with_reducible exact Calls.in_of (Nat.le_refl _) (Kaxy.out _)) | (go_at_call 24; with_reducible exact Calls.in_of (Nat.le_refl _) (Kayx.out _)) | (go_at_call 26; with_reducible exact Calls.in_of (Nat.le_refl _) (Koxy.out _)) | (go_at_call 26; with_reducible exact Calls.in_of (Nat.le_refl _) (Koyx.out _)) | (go_at_call 26; with_reducible exact Calls.in_of (Nat.le_refl _) (Koyz.out _)) | (go_at_call 24; with_reducible exact Calls.in_of (Nat.le_refl _) (Kaxr.out _)) | (go_at_call 24; with_reducible exact Calls.in_of (Nat.le_refl _) (Kaxz.out _)) | (go_at_call 26; with_reducible exact Calls.in_of (Nat.le_refl _) (Kopt.out _)) | (go_at_call 28; with_reducible exact Calls.in_of (Nat.le_refl _) (Kmxr.out _)) | (go_at_call 28; with_reducible exact Calls.in_of (Nat.le_refl _) (Kmxy.out _)) | (go_at_call 28; with_reducible exact Calls.in_of (Nat.le_refl _) (Kmuz.out _)) | (go_at_call 18; with_reducible exact Calls.in_of (Nat.le_refl _) (Kcp.out _)) | (go_at_call 18; with_reducible exact Calls.in_of (Nat.le_refl _) (Kcq.out _)) | (go_at_call 18; with_reducible exact Calls.in_of (Nat.le_refl _) (Kcx.out _)) | (go_at_call 18; with_reducible exact Calls.in_of (Nat.le_refl _) (Kcy.out _)) | (go_at_call 26; with_reducible exact Calls.in_of (Nat.le_refl _) (Koup.out _)) | (go_at_call 24; with_reducible exact Calls.in_of (Nat.le_refl _) (Kauy.out _))))
  refine wpQuiet_nil ?_
  intro w6 hb6
  clear X0 X1 X2 X3 Y0 Y1 Y2 Y3 Z0 Z1 Z2 Z3
  replace j0 := j0.next hb6; replace j1 := j1.next hb6; replace hb0 := bmore hb0 hb6; clear hb6 j2 hIn
  go_wp2_with fail
  have X0 := In.cell (B := w6.heap.size) j0.lt (j0.cell 0 _ rfl)
  have X1 := In.cell (B := w6.heap.size) j0.lt (j0.cell 1 _ rfl)
  have X2 := In.cell (B := w6.heap.size) j0.lt (j0.cell 2 _ rfl)
  have X3 := In.cell (B := w6.heap.size) j0.lt (j0.cell 3 _ rfl)
  have Y0 := In.cell (B := w6.heap.size) j1.lt (j1.cell 0 _ rfl)
  have Y1 := In.cell (B := w6.heap.size) j1.lt (j1.cell 1 _ rfl)
  have Y2 := In.cell (B := w6.heap.size) j1.lt (j1.cell 2 _ rfl)
  have Y3 := In.cell (B := w6.heap.size) j1.lt (j1.cell 3 _ rfl)
  have hIn := inNonempty w6.heap.size w6
  have KLW := Lib.hid (fun n : In w6.heap.size w6 => KL.out n.val ((G.next hb0).next n.ok))
  refine region_in w6.heap.size (by kernel_rfl) (by kernel_rfl) ?_
  repeat (go_big_quiet_step (first | (go_at_call 9; with_reducible exact Calls.in_of (Nat.le_refl _) (KLW.out _)) | (go_at_call 24; with_reducible exact Calls.in_of (Nat.le_refl _) (Kaxy.out _)) | (go_at_call 24; with_reducible exact Calls.in_of (Nat.le_refl _) (Kayx.out _)) | (go_at_call 26; with_reducible exact Calls.in_of (Nat.le_refl _) (Koxy.out _)) | (go_at_call 26; with_reducible exact Calls.in_of (Nat.le_refl _) (Koyx.out _)) | (go_at_call 26; with_reducible exact Calls.in_of (Nat.le_refl _) (Koyz.out _)) | (go_at_call 24; with_reducible exact Calls.in_of (Nat.le_refl _) (Kaxr.out _)) | (go_at_call 24; with_reducible exact Calls.in_of (Nat.le_refl _) (Kaxz.out _)) | (go_at_call 26; with_reducible exact Calls.in_of (Nat.le_refl _) (Kopt.out _)) | (go_at_call 28; with_reducible exact Calls.in_of (Nat.le_refl _) (Kmxr.out _)) | (go_at_call 28; with_reducible exact Calls.in_of (Nat.le_refl _) (Kmxy.out _)) | (go_at_call 28; with_reducible exact Calls.in_of (Nat.le_refl _) (Kmuz.out _)) | (go_at_call 18; with_reducible exact Calls.in_of (Nat.le_refl _) (Kcp.out _)) | (go_at_call 18; with_reducible exact Calls.in_of (Nat.le_refl _) (Kcq.out _)) | (go_at_call 18; with_reducible exact Calls.in_of (Nat.le_refl _) (Kcx.out _)) | (go_at_call 18; with_reducible exact Calls.in_of (Nat.le_refl _) (Kcy.out _)) | (go_at_call 26; with_reducible exact Calls.in_of (Nat.le_refl _) (Koup.out _)) | (go_at_call 24; with_reducible exact Calls.in_of (Nat.le_refl _) (Kauy.out _))))
  refine wpQuiet_nil ?_
  intro w7 hb7
  clear X0 X1 X2 X3 Y0 Y1 Y2 Y3
  go_wp2_with fail
  go_ret
  exact ⟨rfl, bmore hb0 hb7⟩

end Go.Proofs.YthmlibapjhmdbaaDoor
