/- TrailingZeros64. -/
import Derived.Test.YthmlibapjhmdbaaDoorW8
import Derived.Test.YthmlibapjhmdbaaDoorTz
import Derived.Test.YthmlibapjhmdbaaDoorShelf
namespace Go.Proofs.YthmlibapjhmdbaaDoor
open Go.RowKit Go.Shelf

/-- The tables, and the library's other variables, are there. -/
structure Glob (w : World) : Prop where
  deb : ∀ i, i < 64 → w.cell? ⟨0, i, none⟩ = some (.int .u8 (Mk.nth Mk.deb i : Nat))
  mx : ∃ m, w.cell? ⟨1, 0, none⟩ = some (.int .i64 m)
  syn : ∃ te pe, w.cell? ⟨2, 0, none⟩ = some (.iface te pe)
  rng : ∃ te pe, w.cell? ⟨3, 0, none⟩ = some (.iface te pe)
  tab : ∃ t fr, w.heap[4]? = some (.cells (Lib.pow10Tab.map fun z => Value.int .u64 z).toArray t fr)
  five : 6 ≤ w.heap.size
theorem Glob.below {B : Nat} {w w' : World} (h : Glob w) (hb : Below B w w') (hB : 6 ≤ B) : Glob w' := by
  have key : ∀ {g : Nat}, g < 6 → w'.heap[g]? = w.heap[g]? := fun hg => hb.block _ (by omega)
  have cell : ∀ {g i : Nat}, g < 6 → w'.cell? ⟨g, i, none⟩ = w.cell? ⟨g, i, none⟩ := fun {g i} hg => hb.cell (p := ⟨g, i, none⟩) (Nat.lt_of_lt_of_le hg hB)
  obtain ⟨m, hm⟩ := h.mx
  obtain ⟨t1, p1, h1⟩ := h.syn
  obtain ⟨t2, p2, h2⟩ := h.rng
  obtain ⟨t3, p3, h3⟩ := h.tab
  exact ⟨fun i hi => (cell (by decide)).trans (h.deb i hi), ⟨m, (cell (by decide)).trans hm⟩, ⟨t1, p1, (cell (by decide)).trans h1⟩, ⟨t2, p2, (cell (by decide)).trans h2⟩, ⟨t3, p3, (key (by decide)).trans h3⟩, Nat.le_trans h.five hb.size⟩
theorem Glob.next {w w' : World} (h : Glob w) (hb : Below w.heap.size w w') : Glob w' := h.below hb h.five

theorem neg_bits (x j : Nat) (h0 : x ≠ 0) (hx : x < 2 ^ 64) (h : x &&& (2 ^ 64 - x) = 2 ^ j) : bits .and .u64 (x : Int) (IntKind.u64.wrap (-(x : Int))) = ((2 ^ j : Nat) : Int) := by
  have e : IntKind.u64.wrap (-(x : Int)) = ((2 ^ 64 - x : Nat) : Int) := by
    rw [IntKind.wrap_u64]
    have : x < 18446744073709551616 := hx
    have h2 : (2 : Nat) ^ 64 = 18446744073709551616 := by decide
    rw [h2]
    omega
  rw [e, u64_and_nat _ _ hx (by have h2 : (2 : Nat) ^ 64 = 18446744073709551616 := by decide
                                omega), h]
theorem mul_wrap (a C N : Nat) (h : a * C % 18446744073709551616 = N) : IntKind.u64.wrap ((a : Int) * (C : Int)) = (N : Int) := by
  rw [IntKind.wrap_u64, ← Int.natCast_mul]
  omega

set_option maxRecDepth 100000 in
set_option maxHeartbeats 400000 in
theorem tz_walk (x a N i v : Nat) (w : World) (h0 : ((x : Int) == 0) = false) (e1 : bits .and .u64 (x : Int) (IntKind.u64.wrap (-(x : Int))) = (a : Int)) (e2 : IntKind.u64.wrap ((a : Int) * 285870213051353865) = (N : Int)) (e3 : (N : Int) / 288230376151711744 = (i : Int)) (hi : i < 64)
    (hc : w.cell? ⟨0, i, none⟩ = some (.int .u8 (v : Nat))) (hv : v < 64) :
    Calls Tryd.prog 47 #[.int .u64 (x : Nat)] w fun e w' => e = .returned (.int .i64 (v : Nat)) ∧ w = w' := by
  have i0 : (0 : Int) ≤ (i : Int) := by omega
  have i1 : (i : Int) < 64 := by omega
  go_enter Tryd.func47, Tryd.ntmps47
  go_wp2_with fail
  go_ret
  exact ⟨rfl, rfl⟩
theorem tz_any (x : Nat) (w : World) (G : Glob w) (h0 : x ≠ 0) (hx : x < 2 ^ 64) :
    Calls Tryd.prog 47 #[.int .u64 (x : Nat)] w fun e w' => e = .returned (.int .i64 (Mk.tzr 64 x : Nat)) ∧ w = w' := by
  have hs := Mk.hi_step (m := x) (t := 0) hx (by rw [Mk.hi_zero]; exact h0)
  rw [Mk.hi_zero] at hs
  obtain ⟨_, hj, _, _, _, hn⟩ := hs
  have hd := Mk.deb_ok ⟨Mk.tzr 64 x, hj⟩
  simp only at hd
  generalize Mk.tzr 64 x = j at *
  obtain ⟨N, hN⟩ : ∃ N, N = 2 ^ j * 285870213051353865 % 18446744073709551616 := ⟨_, rfl⟩
  rw [← hN] at hd
  have hc := G.deb _ hd.2
  rw [hd.1] at hc
  exact tz_walk x (2 ^ j) N (N / 288230376151711744) j w (by simp; omega) (neg_bits x j h0 hx hn) (mul_wrap _ 285870213051353865 N hN.symm) (by omega) hd.2 hc hj
end Go.Proofs.YthmlibapjhmdbaaDoor
