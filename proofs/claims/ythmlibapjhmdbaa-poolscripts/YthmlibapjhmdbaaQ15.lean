/- A pool: its owners, rising; what live does, call by call. -/
import Derived.Test.YthmlibapjhmdbaaQ14
namespace Go.Proofs.Ythmlibapjhmdbaa
open Go.RowKit Go.Shelf Go.Maps Go.Sort

theorem size_keys {D : DataW Unit} (h : IsMap D) : Maps.size D = (intKeys D).length := by
  obtain ⟨es, rfl⟩ := h
  simp [Maps.size, intKeys]
theorem owners_at {w : World} {p b k s q : Nat} {g : Int → Option Sh} (h : PoolAt w p b k s q g) (L : List Int) (hL : L.Pairwise (· < ·)) (hin : ∀ n, n ∈ L ↔ (g n).isSome = true) (hl : L.length ≤ 1000000) :
    Calls Try.prog 16 #[.pointer (some ⟨p, 0, none⟩)] w fun e w' => ∃ v, e = .returned v ∧ w'.ownsRow w.heap.size 3 1 v L.length (L.map encZ) ∧ (v = .slice none 0 0 ↔ L = []) ∧ Below w.heap.size w w' := by
  obtain ⟨D, hown, hs⟩ := h.own
  have hnd : L.Nodup := hL.imp (fun hlt => by omega)
  have hp : L.Perm (intKeys D) := by
    obtain ⟨es, hD, hpw, _⟩ := hown.entries law
    obtain ⟨es', hD', hko⟩ := hown.keysOf
    obtain rfl : es = es' := by rw [hD] at hD'; simpa using hD'
    subst hD
    exact perm_intKeys hpw (fun p hp => by obtain ⟨v, hv⟩ := hko p hp; obtain ⟨x, _, hx, _⟩ := Maps.keyOf_i64 Try.underlying3 hv; exact ⟨x, hx⟩) hnd (fun x => by rw [hin, ← hs.has])
  have hsz : Maps.size D = L.length := by rw [size_keys hs.map, hp.length_eq]
  refine (owners_map h.blk D hown (by rw [hsz]; unfold maxLen; omega) (by omega)).mono ?_
  rintro e w' ⟨v, ss, rfl, hss, hrow, hnil, hb⟩
  have hsl : ss.Perm L := hss.trans hp.symm
  have hsort : ss.mergeSort (fun x y => decide (x ≤ y)) = L := by
    have e1 : ss.mergeSort leI = L.mergeSort leI := mergeSort_of_perm_i hsl
    have e2 : L.mergeSort leI = L := List.mergeSort_of_pairwise (hL.imp (fun hlt => by simp only [leI, decide_eq_true_eq]; omega))
    exact e1.trans e2
  rw [hsort, hsl.length_eq] at hrow
  refine ⟨v, rfl, hrow, hnil.trans ⟨fun e => ?_, fun e => ?_⟩, hb⟩
  · subst e; exact hsl.symm.eq_nil
  · subst e; exact hsl.eq_nil
end Go.Proofs.Ythmlibapjhmdbaa
