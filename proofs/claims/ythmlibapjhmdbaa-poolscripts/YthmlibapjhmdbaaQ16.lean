/- A pool: live's calls on the way. -/
import Derived.Test.YthmlibapjhmdbaaQ15
namespace Go.Proofs.Ythmlibapjhmdbaa
open Go.RowKit Go.Shelf Go.Maps Go.Sort

/-- What live knows on its way: its pool, and all elder memory as it was. -/
structure Lp (w V : World) (p b k : Nat) (g : Int → Option Sh) : Prop where
  pool : PoolAt V p b k 1 4 g
  low : Below w.heap.size w V
  nb : w.heap.size ≤ b
section
variable {w V V' : World} {p b k k' : Nat} {g g' : Int → Option Sh}
theorem Lp.next (h : Lp w V p b k g) (hb : Below V.heap.size V V') : Lp w V' p b k g := ⟨h.pool.next hb, h.low.trans (hb.mono h.low.size), h.nb⟩
theorem Lp.turn (h : Lp w V p b k g) (ht : Turned V V' p b k' 1 4 g') : Lp w V' p b k' g' :=
  ⟨ht.pool, h.low.grown ht.grown h.low.size (fun j ej => by cases ej; exact h.nb), h.nb⟩
end
section
variable {w V : World} {p b k : Nat}
theorem PoolAt.ltb {V : World} {p b k s q : Nat} {g : Int → Option Sh} (h : PoolAt V p b k s q g) : b < V.heap.size := by
  obtain ⟨D, h1, _⟩ := h.own
  exact h1.lt
/-- Owner 7 reserves three cores. -/
theorem lp1 (h : Lp w V p b 0 G0) : Calls Try.prog 26 #[.pointer (some ⟨p, 0, none⟩), .int .i64 7, .agg #[.int .u64 0, .int .u64 0, .int .u64 0, .int .u64 0, .int .i64 1, .int .i64 3, .int .i64 0]] V fun e w' => ∃ gm, e = .returned (.tuple #[.slice (some ⟨gm, 0, none⟩) 1 1, .int .i64 0]) ∧ gm ≠ b ∧ Row .u64 40 w' gm [7, 0, 0, 0] ∧ Lp w w' p b 1 G1 := by
  have := reserve_ok h.pool (n := 7) (by decide) 0 0 0 0 1 3 0 (by decide) C7 15 0 0 0 7 0 0 0 1 [7, 0, 0, 0] rfl rfl (own_yes (by decide) (by decide)) rfl (free_at fr0 p b 0) assign7 union7
  refine this.mono ?_
  rintro e w' ⟨gm, rfl, hg, hr, ht⟩
  have := h.pool.ltb
  exact ⟨gm, rfl, by omega, hr, h.turn ht⟩
/-- Owner 7 has cores. -/
theorem lp2 (h : Lp w V p b k G1) : Calls Try.prog 26 #[.pointer (some ⟨p, 0, none⟩), .int .i64 7, .agg #[.int .u64 0, .int .u64 0, .int .u64 0, .int .u64 0, .int .i64 1, .int .i64 1, .int .i64 0]] V fun e w' => e = .returned (.tuple #[.slice none 0 0, .int .i64 14]) ∧ Below V.heap.size V w' :=
  reserve_has h.pool (n := 7) (by decide) 0 0 0 0 1 1 0 (own_yes (by decide) (by decide)) rfl
/-- Owner 8 asks for more than is free. -/
theorem lp3 (h : Lp w V p b k G1) : Calls Try.prog 26 #[.pointer (some ⟨p, 0, none⟩), .int .i64 8, .agg #[.int .u64 0, .int .u64 0, .int .u64 0, .int .u64 0, .int .i64 2, .int .i64 1, .int .i64 0]] V fun e w' => e = .returned (.tuple #[.slice none 0 0, .int .i64 12]) ∧ Below V.heap.size V w' :=
  reserve_few h.pool (n := 8) (by decide) 0 0 0 0 2 1 0 8 0 0 0 12 (by decide) (own_yes (by decide) (by decide)) rfl (free_at fr1 p b k) assign8
theorem lp4 (h : Lp w V p b k G1) : Calls Try.prog 18 #[.pointer (some ⟨p, 0, none⟩), .int .i64 7] V fun e w' => e = .returned (.tuple #[.agg #[.int .u64 7, .int .u64 0, .int .u64 0, .int .u64 0], .bool false]) ∧ Below V.heap.size V w' :=
  ofOwner_any h.pool (n := 7) (by decide)
theorem lp5 (h : Lp w V p b 1 G1) : Calls Try.prog 28 #[.pointer (some ⟨p, 0, none⟩), .int .i64 7] V fun e w' => e = .returned (.int .i64 0) ∧ Lp w w' p b 2 G2 :=
  (commit_ok h.pool (n := 7) (by decide) (c := C7) rfl rfl (by decide)).mono fun _ _ ⟨he, ht⟩ => ⟨he, h.turn ht⟩
theorem lp6 (h : Lp w V p b k G2) : Calls Try.prog 18 #[.pointer (some ⟨p, 0, none⟩), .int .i64 7] V fun e w' => e = .returned (.tuple #[.agg #[.int .u64 7, .int .u64 0, .int .u64 0, .int .u64 0], .bool true]) ∧ Below V.heap.size V w' :=
  ofOwner_any h.pool (n := 7) (by decide)
theorem lp7 (h : Lp w V p b k G2) : Calls Try.prog 27 #[.pointer (some ⟨p, 0, none⟩), .int .i64 9, .agg #[.int .u64 12, .int .u64 0, .int .u64 0, .int .u64 0]] V fun e w' => e = .returned (.int .i64 12) ∧ Below V.heap.size V w' :=
  take_cores h.pool (n := 9) (by decide) 12 0 0 0 8 0 0 0 4 0 0 0 rfl (own_yes (by decide) (by decide)) (empty_no (by decide)) (free_at fr2 p b k) minus12 (empty_no (by decide))
theorem lp8 (h : Lp w V p b 2 G2) : Calls Try.prog 27 #[.pointer (some ⟨p, 0, none⟩), .int .i64 9, .agg #[.int .u64 8, .int .u64 0, .int .u64 0, .int .u64 0]] V fun e w' => e = .returned (.int .i64 0) ∧ Lp w w' p b 3 G3 :=
  (take_walk h.pool (n := 9) (by decide) (by decide) C9 8 0 0 0 8 0 0 0 0 0 0 0 rfl rfl rfl (own_yes (by decide) (by decide)) (empty_no (by decide)) (free_at fr2 p b 2) minus8 empty_yes).mono fun _ _ ⟨he, ht⟩ => ⟨he, h.turn ht⟩
theorem lp9 (h : Lp w V p b k G3) : Calls Try.prog 25 #[.pointer (some ⟨p, 0, none⟩), .int .i64 7] V fun e w' => e = .returned (.int .i64 0) ∧ Lp w w' p b k G4 :=
  (release_ok h.pool (n := 7) (by decide) rfl).mono fun _ _ ⟨he, ht⟩ => ⟨he, h.turn ht⟩
theorem lp10 (h : Lp w V p b k G4) : Calls Try.prog 13 #[.pointer (some ⟨p, 0, none⟩)] V fun e w' => e = .returned (.agg #[.int .u64 7, .int .u64 0, .int .u64 0, .int .u64 0]) ∧ Below V.heap.size V w' :=
  free_at fr4 p b k V h.pool
theorem g4_in (n : Int) : n ∈ [(9 : Int)] ↔ (G4 n).isSome = true := by
  unfold G4 G3 G2 G1 G0
  constructor
  · intro h
    simp at h
    subst h
    rfl
  · intro h
    split at h
    · cases h
    · split at h
      · next h9 => simp [h9]
      · cases h
theorem lp11 (h : Lp w V p b k G4) : Calls Try.prog 16 #[.pointer (some ⟨p, 0, none⟩)] V fun e w' => ∃ v, e = .returned v ∧ w'.ownsRow V.heap.size 3 1 v 1 [.int .i64 9] ∧ Below V.heap.size V w' :=
  (owners_at h.pool [9] (by simp) g4_in (by simp)).mono fun _ _ ⟨v, he, hr, _, hb⟩ => ⟨v, he, hr, hb⟩
theorem lp12 (h : Lp w V p b k G4) : Calls Try.prog 25 #[.pointer (some ⟨p, 0, none⟩), .int .i64 7] V fun e w' => e = .returned (.int .i64 14) ∧ Below V.heap.size V w' :=
  release_no h.pool (n := 7) (by decide) rfl
theorem lp13 (V : World) : Calls Try.prog 9 #[.agg #[.int .i64 0, .int .i64 0]] V fun e w' => e = .returned (.pointer none) ∧ Below V.heap.size V w' :=
  new_bad 0 0 V (by unfold LBad; omega)
end
end Go.Proofs.Ythmlibapjhmdbaa
