/- The document's Has, Same of masks; told. -/
import Derived.Test.YthmlibapjhmdbaaW19
import Derived.Deep.AppendLies
namespace Go.Proofs.Ythmlibapjhmdbaa
open Go.RowKit Go.Shelf

attribute [local go_sem] eq33 eq40

theorem half_pow (x k : Nat) : x / 2 ^ k / 2 = x / 2 ^ (k + 1) := by rw [Nat.div_div_eq_div_mul, Nat.pow_succ]

set_option maxRecDepth 100000 in
set_option maxHeartbeats 400000 in
theorem rHas_in (l : List Nat) (c : Nat) (w : World) (hl : Mk.W4 l) (hc : c < 256) :
    Calls Try.prog 63 #[.agg (vs .u64 l), .int .i64 c] w fun e w' => e = .returned (.bool (Mk.hasB l c)) ∧ Below w.heap.size w w' := by
  have HL := Lib.hid hl
  clear hl
  have r0 := Row.new w .u64 35 l _ rfl
  have hc0 := r0.cell (c / 64) (by rw [HL.out.1]; omega)
  have t1 : decide ((c : Int) < 0) = false := by simp
  have t2 : decide ((255 : Int) < (c : Int)) = false := by simp; omega
  go_enter Try.func63, Try.ntmps63
  go_wp2_with fail
  go_loop [5, 6] (fun a i => ∃ k : Nat, k ≤ c % 64 ∧ i = .int .i64 k ∧ a = .int .u64 (Mk.nth l (c / 64) / 2 ^ k : Nat)) (fun _ i => c % 64 - (intOf i).toNat)
  case atStart => exact ⟨0, Nat.zero_le _, rfl, by simp⟩
  case round =>
    obtain ⟨k, hk, rfl, rfl⟩ := hrel
    have HX : Hid (Mk.nth l (c / 64) / 2 ^ k < 2 ^ 64) := Nat.lt_of_le_of_lt (Nat.div_le_self _ _) (HL.out.2 _)
    by_cases hlt : k < c % 64
    · have HS := Lib.hid (half_pow (Mk.nth l (c / 64)) k)
      generalize Mk.nth l (c / 64) / 2 ^ k = x at *
      have hi1 : (k : Int) < (c : Int) % 64 := by omega
      have hq : IntKind.u64.wrap ((x : Int) / 2) = (x : Int) / 2 := by
        have := HX.out
        rw [IntKind.wrap_u64]
        omega
      go_wp2_with fail
      go_round
      case rel => exact ⟨k + 1, by omega, by go_num, by rw [← HS.out]; simp⟩
      case measure => simp [intOf]; omega
    · obtain rfl : k = c % 64 := by omega
      have hi1 : decide (((c % 64 : Nat) : Int) < (c : Int) % 64) = false := by simp
      have hq : ((((Mk.nth l (c / 64) / 2 ^ (c % 64) : Nat) : Int) % 2) == 1) = Mk.hasB l c := by
        unfold Mk.hasB
        rw [Nat.testBit_eq_decide_div_mod_eq]
        generalize Mk.nth l (c / 64) / 2 ^ (c % 64) = y
        rw [Bool.eq_iff_iff]
        simp
        omega
      have HQ := Lib.hid hq
      clear hq
      generalize Mk.nth l (c / 64) / 2 ^ (c % 64) = y at *
      go_wp2_with fail
      go_ret
      refine ⟨?_, (Below.refl _ _).alloc (Nat.le_refl _) _⟩
      rw [← HQ.out]
      rfl

/-- Masks in a block, one behind the other: a cell. -/
theorem mask_cell {w : World} {t : TypeId} {g : Nat} {ms : List (List Nat)} {k : Nat} {m : List Nat} (h : Row .u64 t w g ms.flatten) (h4 : All4 ms) (hm : ms[k]? = some m) {j : Nat} (hj : j < 4) : w.cell? ⟨g, k * 4 + j, none⟩ = some (.int .u64 (Mk.nth m j : Nat)) := by
  have hk : k < ms.length := (List.getElem?_eq_some_iff.1 hm).1
  rw [h.cell (k * 4 + j) (by rw [flat_len h4]; omega), flat_nth h4 hk hj, List.getD_eq_getElem?_getD, hm]; rfl

/-- A slice of masks: its cells. -/
def MasksAt (w : World) (B g : Nat) (ms : List (List Nat)) : Prop := g < B ∧ ∀ k m, ms[k]? = some m → ∀ j, j < 4 → w.cell? ⟨g, k * 4 + j, none⟩ = some (.int .u64 (Mk.nth m j : Nat))
theorem MasksAt.below {w w' : World} {B g : Nat} {ms : List (List Nat)} (h : MasksAt w B g ms) (hb : Below B w w') : MasksAt w' B g ms :=
  ⟨h.1, fun k m hm j hj => (hb.cell (p := ⟨g, k * 4 + j, none⟩) h.1).trans (h.2 k m hm j hj)⟩
theorem MasksAt.more {w : World} {B B' g : Nat} {ms : List (List Nat)} (h : MasksAt w B g ms) (hB : B ≤ B') : MasksAt w B' g ms := ⟨Nat.lt_of_lt_of_le h.1 hB, h.2⟩
theorem MasksAt.next {w w' : World} {g : Nat} {ms : List (List Nat)} (h : MasksAt w w.heap.size g ms) (hb : Below w.heap.size w w') : MasksAt w' w'.heap.size g ms := (h.below hb).more hb.size
theorem masks_row {w : World} {t : TypeId} {g : Nat} {ms : List (List Nat)} (h : Row .u64 t w g ms.flatten) (h4 : All4 ms) : MasksAt w w.heap.size g ms := ⟨h.lt, fun _ _ hm _ hj => mask_cell h h4 hm hj⟩

set_option maxRecDepth 100000 in
set_option maxHeartbeats 400000 in
theorem rSame_eq (g g' ca cb n : Nat) (ms : List (List Nat)) (w : World) (hA : MasksAt w w.heap.size g ms) (hB : MasksAt w w.heap.size g' ms) (hn : ms.length = n) (hl : n ≤ 32) :
    Calls Try.prog 32 #[.slice (some ⟨g, 0, none⟩) n ca, .slice (some ⟨g', 0, none⟩) n cb] w fun e w' => e = .returned (.bool true) ∧ Below w.heap.size w w' := by
  have HN := Lib.hid hn
  clear hn
  go_enter Try.func32, Try.ntmps32
  go_wp2_with fail
  go_loopw [5] (fun i wr => ∃ k : Nat, k ≤ n ∧ i = .int .i64 k ∧ Below w.heap.size w wr)
    (fun i _ => n - (intOf i).toNat)
  case atStart => exact ⟨0, Nat.zero_le _, rfl, Below.refl _ _⟩
  case round =>
    obtain ⟨k, hk, rfl, hb⟩ := hrel
    by_cases hlt : k < n
    · obtain ⟨m, hm⟩ : ∃ m, ms[k]? = some m := ⟨ms[k]'(by rw [HN.out]; exact hlt), List.getElem?_eq_getElem _⟩
      have a0 := (hA.below hb).2 k m hm 0 (by decide)
      have a1 := (hA.below hb).2 k m hm 1 (by decide)
      have a2 := (hA.below hb).2 k m hm 2 (by decide)
      have a3 := (hA.below hb).2 k m hm 3 (by decide)
      have b0 := (hB.below hb).2 k m hm 0 (by decide)
      have b1 := (hB.below hb).2 k m hm 1 (by decide)
      have b2 := (hB.below hb).2 k m hm 2 (by decide)
      have b3 := (hB.below hb).2 k m hm 3 (by decide)
      simp only [Nat.add_zero] at a0 b0
      clear hm
      have i0 : (0 : Int) ≤ (k : Int) := by omega
      have i1 : (k : Int) < (n : Int) := by omega
      go_wp2_with fail
      go_quiet (fail)
      go_wp2_with fail
      go_roundw
      case rel => exact ⟨k + 1, by omega, by go_num, below_drewN' hb _⟩
      case measure => simp [intOf]; omega
    · obtain rfl : k = n := by omega
      go_wp2_with fail
      go_ret
      exact ⟨rfl, hb⟩
set_option maxRecDepth 100000 in
set_option maxHeartbeats 400000 in
theorem rSame_nil (w : World) : Calls Try.prog 32 #[.slice none 0 0, .slice none 0 0] w fun e w' => e = .returned (.bool true) ∧ Below w.heap.size w w' := by
  go_enter Try.func32, Try.ntmps32
  go_wp2_with fail
  go_loop [5] (fun i => i = .int .i64 0) (fun _ => 0)
  case atStart => rfl
  case round =>
    subst hrel
    go_wp2_with fail
    go_ret
    exact ⟨rfl, Below.refl _ _⟩

theorem infoB : (Try.prog.info? 35).map (fun i => (i.zero, i.size, i.bytes)) = some (some (.agg #[.int .u64 0, .int .u64 0, .int .u64 0, .int .u64 0]), 4, 32) := by kernel_rfl
/-- A mask's words, as values. -/
def w4 (m : List Nat) : List Value := [.int .u64 (Mk.nth m 0 : Nat), .int .u64 (Mk.nth m 1 : Nat), .int .u64 (Mk.nth m 2 : Nat), .int .u64 (Mk.nth m 3 : Nat)]
def mv (ms : List (List Nat)) : List Value := ms.flatMap w4
theorem mv_snoc (ms : List (List Nat)) (m : List Nat) : mv (ms ++ [m]) = mv ms ++ w4 m := by simp [mv]
theorem mv_get : ∀ (ms : List (List Nat)) (k : Nat) (m : List Nat), ms[k]? = some m → ∀ j, j < 4 → (mv ms)[k * 4 + j]? = some (.int .u64 (Mk.nth m j : Nat))
  | x :: ms, 0, m, h, j, hj => by
    obtain rfl : x = m := by simpa using h
    match j, hj with
    | 0, _ | 1, _ | 2, _ | 3, _ => rfl
  | x :: ms, k + 1, m, h, j, hj => by
    have ih := mv_get ms k m (by simpa using h) j hj
    show (w4 x ++ mv ms)[_]? = _
    have hl : (w4 x).length = 4 := rfl
    rw [List.getElem?_append_right (by omega), hl, show (k + 1) * 4 + j - 4 = k * 4 + j by omega, ih]
theorem masks_own {w : World} {base g n cap : Nat} {ms : List (List Nat)} (hn : ms.length = n) (h : w.ownsRow base 35 4 (.slice (some ⟨g, 0, none⟩) n cap) n (mv ms)) : MasksAt w w.heap.size g ms := by
  rcases h.2 with ⟨h0, _⟩ | ⟨g', cap', cur, h1, h2, h3, h4, h5, h6, h7⟩
  · cases h0
  · cases h1
    refine ⟨(Array.getElem?_eq_some_iff.1 h3).1, fun k m hm j hj => ?_⟩
    have hk : k < ms.length := (List.getElem?_eq_some_iff.1 hm).1
    rw [cell_of_row w g (k * 4 + j) cur 35 (0, 0) h3, ← mv_get ms k m hm j hj, ← h7, List.getElem?_take, if_pos (by omega)]
    simp
end Go.Proofs.Ythmlibapjhmdbaa
