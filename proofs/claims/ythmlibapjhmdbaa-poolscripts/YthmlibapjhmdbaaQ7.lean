/- A pool: Free tells one mask. -/
import Derived.Test.YthmlibapjhmdbaaQ6
namespace Go.Proofs.Ythmlibapjhmdbaa
open Go.RowKit Go.Shelf Go.Maps

open Classical in
/-- The cores that nobody has. -/
noncomputable def freeM (all : List Nat) (g : Int → Option Sh) : List Nat :=
  Mk.ofL ((List.range 256).filter fun d => decide (Mk.hasB all d = true ∧ ∀ n sh, g n = some sh → Mk.hasB sh.m d = false))
theorem freeM_lt {p : Nat → Bool} : ∀ x ∈ (List.range 256).filter p, x < 256 := fun x hx => by simpa using (List.mem_filter.1 hx).1
theorem freeM_W4 (all : List Nat) (g : Int → Option Sh) : Mk.W4 (freeM all g) := Mk.ofL_W4 freeM_lt
theorem freeM_has (all : List Nat) (g : Int → Option Sh) {d : Nat} (hd : d < 256) : Mk.hasB (freeM all g) d = true ↔ Mk.hasB all d = true ∧ ∀ n sh, g n = some sh → Mk.hasB sh.m d = false := by
  unfold freeM
  rw [Mk.has_ofL freeM_lt]
  simp [hd]
theorem free_is {all m : List Nat} {g : Int → Option Sh} (hm : Mk.W4 m) (h : Left all m g (fun _ => false)) : m = freeM all g :=
  Mk.ext hm (freeM_W4 all g) fun d hd => by
    rw [Bool.eq_iff_iff, h d hd, freeM_has all g hd]
    exact ⟨fun h => ⟨h.1, fun n sh hn => h.2 n sh hn rfl⟩, fun h => ⟨h.1, fun n sh hn _ => h.2 n sh hn⟩⟩
theorem free_fix {w : World} {p b k s q : Nat} {g : Int → Option Sh} (h : PoolAt w p b k s q g) (hL : LOk s q) :
    Calls Try.prog 13 #[.pointer (some ⟨p, 0, none⟩)] w fun e w' => e = .returned (.agg (vs .u64 (freeM (Mk.ofL (List.range (s * q))) g))) ∧ Below w.heap.size w w' := by
  refine (free_any h hL).mono ?_
  rintro e w' ⟨m, rfl, hm, hl, hb⟩
  exact ⟨by rw [free_is hm hl], hb⟩
end Go.Proofs.Ythmlibapjhmdbaa
