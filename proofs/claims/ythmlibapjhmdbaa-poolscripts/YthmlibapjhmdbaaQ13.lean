/- A pool: what live asks, call by call. -/
import Derived.Test.YthmlibapjhmdbaaQ12
namespace Go.Proofs.Ythmlibapjhmdbaa
open Go.RowKit Go.Shelf Go.Maps

theorem W4_small {n : Nat} (h : n < 18446744073709551616) : Mk.W4 [n, 0, 0, 0] := by
  refine ⟨rfl, fun i => ?_⟩
  match i with
  | 0 => simpa [Mk.nth] using h
  | 1 | 2 | 3 => simp [Mk.nth]
  | n + 4 => simp [Mk.nth]
/-- The free cores, by the masks that somebody has. -/
theorem freeM_of {all x : List Nat} {g : Int → Option Sh} (L : List (List Nat)) (h1 : ∀ n sh, g n = some sh → sh.m ∈ L) (h2 : ∀ m ∈ L, ∃ n sh, g n = some sh ∧ sh.m = m) (hx : Mk.W4 x) (hd : ∀ d, d < 256 → Mk.hasB x d = (Mk.hasB all d && L.all fun m => !Mk.hasB m d)) : freeM all g = x :=
  Mk.ext (freeM_W4 all g) hx fun d hlt => by
    rw [Bool.eq_iff_iff, freeM_has all g hlt, hd d hlt, Bool.and_eq_true, List.all_eq_true]
    constructor
    · rintro ⟨a, b⟩
      refine ⟨a, fun m hm => ?_⟩
      obtain ⟨n, sh, e1, e2⟩ := h2 m hm
      rw [← e2, b n sh e1]
      rfl
    · rintro ⟨a, b⟩
      refine ⟨a, fun n sh e => ?_⟩
      have := b sh.m (h1 n sh e)
      simpa using this
def C7 : Sh := ⟨[7, 0, 0, 0], false, W4_small (by decide)⟩
def C7t : Sh := ⟨[7, 0, 0, 0], true, W4_small (by decide)⟩
def C9 : Sh := ⟨[8, 0, 0, 0], true, W4_small (by decide)⟩
def G0 : Int → Option Sh := fun _ => Option.none
def G1 : Int → Option Sh := fun m => if m = 7 then some C7 else G0 m
def G2 : Int → Option Sh := fun m => if m = 7 then some C7t else G1 m
def G3 : Int → Option Sh := fun m => if m = 9 then some C9 else G2 m
def G4 : Int → Option Sh := fun m => if m = 7 then Option.none else G3 m
theorem all14 : Mk.ofL (List.range (1 * 4)) = [15, 0, 0, 0] := by decide
theorem lok14 : LOk 1 4 := ⟨by decide, by decide, by decide, by decide, by decide⟩
theorem fr0 : freeM [15, 0, 0, 0] G0 = [15, 0, 0, 0] := freeM_of [] (fun n sh e => by cases e) (fun m hm => by cases hm) (W4_small (by decide)) (by decide +kernel)
theorem fr1 : freeM [15, 0, 0, 0] G1 = [8, 0, 0, 0] := freeM_of [[7, 0, 0, 0]] (fun n sh e => by
    unfold G1 G0 at e
    split at e
    · injection e with e; rw [← e]; simp [C7]
    · cases e) (fun m hm => ⟨7, C7, rfl, by simp at hm; rw [hm]; rfl⟩) (W4_small (by decide)) (by decide +kernel)
theorem fr2 : freeM [15, 0, 0, 0] G2 = [8, 0, 0, 0] := freeM_of [[7, 0, 0, 0]] (fun n sh e => by
    unfold G2 G1 G0 at e
    split at e
    · injection e with e; rw [← e]; simp [C7t]
    · cases e) (fun m hm => ⟨7, C7t, rfl, by simp at hm; rw [hm]; rfl⟩) (W4_small (by decide)) (by decide +kernel)
theorem fr4 : freeM [15, 0, 0, 0] G4 = [7, 0, 0, 0] := freeM_of [[8, 0, 0, 0]] (fun n sh e => by
    unfold G4 G3 G2 G1 G0 at e
    split at e
    · cases e
    · next h7 =>
      split at e
      · injection e with e; rw [← e]; simp [C9]
      · cases e) (fun m hm => ⟨9, C9, rfl, by simp at hm; rw [hm]; rfl⟩) (W4_small (by decide)) (by decide +kernel)
theorem vs1 (n : Nat) : vs .u64 [n, 0, 0, 0] = #[.int .u64 n, .int .u64 0, .int .u64 0, .int .u64 0] := rfl
theorem free_at {g : Int → Option Sh} {x : Nat} (e : freeM [15, 0, 0, 0] g = [x, 0, 0, 0]) (p b k : Nat) (V : World) (h : PoolAt V p b k 1 4 g) : Calls Try.prog 13 #[.pointer (some ⟨p, 0, none⟩)] V fun e w' => e = .returned (.agg #[.int .u64 x, .int .u64 0, .int .u64 0, .int .u64 0]) ∧ Below V.heap.size V w' := by
  have := free_fix h lok14
  rw [all14, e, vs1] at this
  exact this
theorem own_yes {n : Int} (h0 : 0 ≤ n) (h1 : n ≤ 1099511627776) (V : World) : Calls Try.prog 45 #[.int .i64 n] V fun e w' => e = .returned (.bool true) ∧ V = w' := by
  have t : isOwn n = true := by simp [isOwn, h0, h1]
  have := isOwner_any n V
  rw [t] at this
  exact this
end Go.Proofs.Ythmlibapjhmdbaa
