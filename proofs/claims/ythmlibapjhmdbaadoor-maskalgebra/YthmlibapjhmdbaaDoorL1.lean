/- The law MaskAlgebra answers true. -/
import Derived.Test.YthmlibapjhmdbaaDoorW26
namespace Go.Proofs.YthmlibapjhmdbaaDoor
open Go.RowKit Go.Shelf

theorem maskAlgebra_any (x0 x1 x2 x3 y0 y1 y2 y3 z0 z1 z2 z3 : Nat) (w : World) (G : Glob w) (hx : Mk.W4 [x0, x1, x2, x3]) (hy : Mk.W4 [y0, y1, y2, y3]) (hz : Mk.W4 [z0, z1, z2, z3]) :
    Calls Tryd.prog 7 #[.agg #[.int .u64 x0, .int .u64 x1, .int .u64 x2, .int .u64 x3], .agg #[.int .u64 y0, .int .u64 y1, .int .u64 y2, .int .u64 y3], .agg #[.int .u64 z0, .int .u64 z1, .int .u64 z2, .int .u64 z3]] w fun e w' => e = .returned (.bool true) ∧ Below w.heap.size w w' :=
  maskAlgebra_walk x0 x1 x2 x3 y0 y1 y2 y3 z0 z1 z2 z3 (Nat.land x0 y0) (Nat.land x1 y1) (Nat.land x2 y2) (Nat.land x3 y3) (Nat.lor x0 y0) (Nat.lor x1 y1) (Nat.lor x2 y2) (Nat.lor x3 y3) (Nat.lor y0 z0) (Nat.lor y1 z1) (Nat.lor y2 z2) (Nat.lor y3 z3) (Nat.land x0 (Nat.lor y0 z0)) (Nat.land x1 (Nat.lor y1 z1)) (Nat.land x2 (Nat.lor y2 z2)) (Nat.land x3 (Nat.lor y3 z3)) (Nat.land x0 z0) (Nat.land x1 z1) (Nat.land x2 z2) (Nat.land x3 z3) (andN x0 y0) (andN x1 y1) (andN x2 y2) (andN x3 y3) (andN x0 (Nat.lor y0 z0)) (andN x1 (Nat.lor y1 z1)) (andN x2 (Nat.lor y2 z2)) (andN x3 (Nat.lor y3 z3)) (Mk.cnt (zw Nat.land [x0, x1, x2, x3] [y0, y1, y2, y3])) (Mk.cnt (zw Nat.lor [x0, x1, x2, x3] [y0, y1, y2, y3])) (Mk.cnt [x0, x1, x2, x3]) (Mk.cnt [y0, y1, y2, y3]) w G (cnt_and_or hx.1 hy.1) (cnt_le _) (cnt_le _) (cnt_le _) (cnt_le _)
    (fun V => and_any [x0, x1, x2, x3] [y0, y1, y2, y3] V hx hy)
    (fun V => by have h := and_any [y0, y1, y2, y3] [x0, x1, x2, x3] V hy hx; rw [land_comm4 hx hy] at h; exact h)
    (fun V => or_any [x0, x1, x2, x3] [y0, y1, y2, y3] V hx hy)
    (fun V => by have h := or_any [y0, y1, y2, y3] [x0, x1, x2, x3] V hy hx; rw [lor_comm4 hx hy] at h; exact h)
    (fun V => or_any [y0, y1, y2, y3] [z0, z1, z2, z3] V hy hz)
    (fun V => and_any [x0, x1, x2, x3] (zw Nat.lor [y0, y1, y2, y3] [z0, z1, z2, z3]) V hx (lor_W4 hy hz))
    (fun V => and_any [x0, x1, x2, x3] [z0, z1, z2, z3] V hx hz)
    (fun V => by have h := or_any (zw Nat.land [x0, x1, x2, x3] [y0, y1, y2, y3]) (zw Nat.land [x0, x1, x2, x3] [z0, z1, z2, z3]) V (land_W4 hx hy) (land_W4 hx hz); rw [and_or4 hx hy hz] at h; exact h)
    (fun V => minus_any [x0, x1, x2, x3] (zw Nat.lor [y0, y1, y2, y3] [z0, z1, z2, z3]) V hx (lor_W4 hy hz))
    (fun V => minus_any [x0, x1, x2, x3] [y0, y1, y2, y3] V hx hy)
    (fun V => by have h := minus_any (zw andN [x0, x1, x2, x3] [y0, y1, y2, y3]) [z0, z1, z2, z3] V (andN_W4 hx hy) hz; rw [minus_or4 hx hy hz] at h; exact h)
    (fun V => mcount_any (zw Nat.land [x0, x1, x2, x3] [y0, y1, y2, y3]) V (land_W4 hx hy))
    (fun V => mcount_any (zw Nat.lor [x0, x1, x2, x3] [y0, y1, y2, y3]) V (lor_W4 hx hy))
    (fun V => mcount_any [x0, x1, x2, x3] V hx)
    (fun V => mcount_any [y0, y1, y2, y3] V hy)
    (fun V => by have h := or_any (zw andN [x0, x1, x2, x3] [y0, y1, y2, y3]) (zw Nat.land [x0, x1, x2, x3] [y0, y1, y2, y3]) V (andN_W4 hx hy) (land_W4 hx hy); rw [minus_and4 hx hy] at h; exact h)
    (fun V => by have h := and_any (zw andN [x0, x1, x2, x3] [y0, y1, y2, y3]) [y0, y1, y2, y3] V (andN_W4 hx hy) hy; rw [minus_none4 hx hy] at h; exact h)
    (fun V G => live_any V G)
end Go.Proofs.YthmlibapjhmdbaaDoor
