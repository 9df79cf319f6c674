/- A pool in memory: its layout, and who has what, as a map. -/
import Derived.Test.YthmlibapjhmdbaaW14
import Derived.Maps.OwnOps
import Derived.Maps.OwnSet
import Derived.Maps.Views
import Derived.Maps.RangeWalk
namespace Go.Proofs.Ythmlibapjhmdbaa
open Go.RowKit Go.Shelf Go.Maps

/-- A share: its cores, and whether they are committed. -/
structure Sh where
  m : List Nat
  t : Bool
  ok : Mk.W4 m
def Sh.none : Sh := ⟨Mk.zero, false, Mk.W4.zero⟩
def shV (s : Sh) : Value := .agg #[.int .u64 (Mk.nth s.m 0 : Nat), .int .u64 (Mk.nth s.m 1 : Nat), .int .u64 (Mk.nth s.m 2 : Nat), .int .u64 (Mk.nth s.m 3 : Nat), .bool s.t]
def shD (s : Sh) : DataW Unit := .agg [.lit (.int .u64 (Mk.nth s.m 0 : Nat)), .lit (.int .u64 (Mk.nth s.m 1 : Nat)), .lit (.int .u64 (Mk.nth s.m 2 : Nat)), .lit (.int .u64 (Mk.nth s.m 3 : Nat)), .lit (.bool s.t)]
open Classical in
/-- How a share is read. -/
noncomputable def shE (v : Value) : Option (DataW Unit × List MemPlace) := if h : ∃ s, v = shV s then some (shD h.choose, []) else none
theorem Sh.ext' {a b : Sh} (hm : a.m = b.m) (ht : a.t = b.t) : a = b := by
  cases a; cases b; simp only at hm ht; subst hm; subst ht; rfl
theorem nat_cast_inj {a b : Nat} (h : (a : Int) = (b : Int)) : a = b := by omega
theorem m_of_nth {a b : Sh} (h0 : Mk.nth a.m 0 = Mk.nth b.m 0) (h1 : Mk.nth a.m 1 = Mk.nth b.m 1) (h2 : Mk.nth a.m 2 = Mk.nth b.m 2) (h3 : Mk.nth a.m 3 = Mk.nth b.m 3) : a.m = b.m := by
  rw [Mk.len4 a.ok.1, Mk.len4 b.ok.1, h0, h1, h2, h3]
theorem shV_inj {a b : Sh} (h : shV a = shV b) : a = b := by
  simp only [shV, Value.agg.injEq, Array.mk.injEq, List.cons.injEq, Value.int.injEq, Value.bool.injEq, true_and, and_true] at h
  obtain ⟨h0, h1, h2, h3, h4⟩ := h
  exact Sh.ext' (m_of_nth (nat_cast_inj h0) (nat_cast_inj h1) (nat_cast_inj h2) (nat_cast_inj h3)) h4
theorem shD_inj {a b : Sh} (h : shD a = shD b) : a = b := by
  simp only [shD, DataW.agg.injEq, List.cons.injEq, DataW.lit.injEq, Lit.int.injEq, Lit.bool.injEq, true_and, and_true] at h
  obtain ⟨h0, h1, h2, h3, h4⟩ := h
  exact Sh.ext' (m_of_nth (nat_cast_inj h0) (nat_cast_inj h1) (nat_cast_inj h2) (nat_cast_inj h3)) h4
theorem shE_mk (s : Sh) : shE (shV s) = some (shD s, []) := by
  unfold shE
  have h : ∃ s', shV s = shV s' := ⟨s, rfl⟩
  rw [dif_pos h, shV_inj h.choose_spec.symm]
theorem shE_inv {v : Value} {y : DataW Unit × List MemPlace} (h : shE v = some y) : ∃ s, v = shV s ∧ y = (shD s, []) := by
  unfold shE at h
  split at h
  · rename_i hx
    cases h
    exact ⟨hx.choose, hx.choose_spec, rfl⟩
  · cases h

theorem law : Keyed Try.prog 3 := int_keyed Try.underlying3
theorem zero78 (w : World) : (zeroValue 78).run Try.prog w = .ok (shV Sh.none) w := by kernel_rfl
abbrev ky (n : Int) : Lit := .int .i64 n
theorem key_of {n : Int} (h : (Lit.int .i64 n).wf = true) : keyOf Try.prog 3 (.int .i64 n) = some (ky n) := keyOf_int_mk Try.underlying3 h

/-- Who has what, as the map's datum says it. -/
structure Says (D : DataW Unit) (g : Int → Option Sh) : Prop where
  map : IsMap D
  has : ∀ n, Maps.has D (ky n) = (g n).isSome
  at_ : ∀ n s, g n = some s → ∀ z, D.atKey (ky n) z = shD s
theorem says_none : Says (.map []) (fun _ => Option.none) := ⟨⟨_, rfl⟩, fun _ => rfl, fun _ _ h => by cases h⟩
end Go.Proofs.Ythmlibapjhmdbaa
