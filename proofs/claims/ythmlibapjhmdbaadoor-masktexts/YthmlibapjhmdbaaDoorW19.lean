/- Parse: plain facts. -/
import Derived.Test.YthmlibapjhmdbaaDoorW16
namespace Go.Proofs.YthmlibapjhmdbaaDoor
open Go.RowKit Go.Shelf

def comma : ByteArray := ⟨#[44]⟩
/-- A range's cores. -/
def spanL (f l : Nat) : List Nat := Mk.ofL (List.range' f (l + 1 - f))
def parseGo : Nat → ByteArray → Nat → List Nat → List Nat × Nat
  | 0, _, _, _ => (Mk.zero, 5)
  | n + 1, r, L, m =>
    if (endsOf (cutA r comma)).2.2 = true ∧ L ≤ (endsOf (cutA r comma)).1 then
      if cutT r comma = true then parseGo n (cutB r comma) ((endsOf (cutA r comma)).2.1 + 2) (zw Nat.lor m (spanL (endsOf (cutA r comma)).1 (endsOf (cutA r comma)).2.1))
      else (zw Nat.lor m (spanL (endsOf (cutA r comma)).1 (endsOf (cutA r comma)).2.1), 0)
    else (Mk.zero, 5)
/-- What Parse tells: the mask, and the code. -/
def parseOf (s : ByteArray) : List Nat × Nat := if s.toList.isEmpty = true then (Mk.zero, 0) else parseGo 2049 s 0 Mk.zero
theorem coreNum_lt {s : ByteArray} {n : Nat} (h : coreNum s = some n) : n < 256 := by
  unfold coreNum at h
  split at h
  · split at h
    · rename_i hc
      cases h
      omega
    · cases h
  · cases h
theorem ends_ok {s : ByteArray} (h : (endsOf s).2.2 = true) : (endsOf s).1 ≤ (endsOf s).2.1 ∧ (endsOf s).2.1 < 256 := by
  unfold endsOf at *
  split at h
  · rename_i ht
    rw [if_pos ht]
    simp only [Bool.and_eq_true, decide_eq_true_eq] at h
    obtain ⟨⟨h1, h2⟩, h3⟩ := h
    obtain ⟨y, hy⟩ := Option.isSome_iff_exists.1 h2
    refine ⟨Nat.le_of_lt h3, ?_⟩
    rw [hy]
    exact coreNum_lt hy
  · rename_i ht
    rw [if_neg ht]
    simp only at h
    obtain ⟨x, hx⟩ := Option.isSome_iff_exists.1 h
    refine ⟨Nat.le_refl _, ?_⟩
    rw [hx]
    exact coreNum_lt hx
theorem empty_ends : (endsOf (cutA ⟨#[]⟩ comma)).2.2 = false := by decide +kernel
theorem ok_pos {r : ByteArray} (h : (endsOf (cutA r comma)).2.2 = true) : 0 < r.size := by
  rcases Nat.eq_zero_or_pos r.size with h0 | h0
  · have e : r = ⟨#[]⟩ := by
      cases r with
      | mk d =>
        have : d.size = 0 := h0
        rw [Array.size_eq_zero_iff] at this
        rw [this]
    rw [e, empty_ends] at h
    cases h
  · exact h0
theorem cutB_less {r : ByteArray} (h : cutT r comma = true) (h0 : 0 < r.size) : (cutB r comma).size < r.size := by
  have e : r.size = r.data.toList.length := by show r.data.size = _; simp
  unfold cutT Lib.cut at h
  unfold cutB Lib.cut
  rw [size_mk]
  by_cases hi : 0 ≤ Lib.index r.data.toList comma.data.toList
  · rw [if_pos hi]
    simp only [List.length_drop]
    rw [e] at h0 ⊢
    have : comma.data.toList.length = 1 := rfl
    omega
  · rw [if_neg hi] at h
    cases h
theorem cutB_none {r : ByteArray} (h : cutT r comma = false) : (cutB r comma).size = 0 := by
  unfold cutT Lib.cut at h
  unfold cutB Lib.cut
  rw [size_mk]
  by_cases hi : 0 ≤ Lib.index r.data.toList comma.data.toList
  · rw [if_pos hi] at h; cases h
  · rw [if_neg hi]; rfl
theorem spanL_W4 {f l : Nat} (hl : l < 256) : Mk.W4 (spanL f l) := Mk.ofL_W4 (by
  intro x hx
  rw [List.mem_range'_1] at hx
  omega)
theorem span_fl (f l : Nat) (w : World) (h : f ≤ l) (hl : l < 256) :
    Calls Tryd.prog 38 #[.int .i64 f, .int .i64 l] w fun e w' => e = .returned (.agg (vs .u64 (spanL f l))) ∧ Below w.heap.size w w' := by
  have := span_any f (l + 1 - f) w (by omega)
  rw [show ((f : Int) + ((l + 1 - f : Nat) : Int) - 1) = (l : Int) by omega] at this
  exact this
theorem zwlor_W4 {a b : List Nat} (ha : Mk.W4 a) (hb : Mk.W4 b) : Mk.W4 (zw Nat.lor a b) := by
  refine ⟨zw_len ha.1 hb.1, fun i => ?_⟩
  by_cases hi : i < 4
  · rw [zw_nth ha.1 hb.1 hi]; exact Nat.or_lt_two_pow (ha.2 i) (hb.2 i)
  · rw [Mk.nth_getElem?, List.getElem?_eq_none (by rw [zw_len ha.1 hb.1]; omega)]; exact Nat.two_pow_pos 64
theorem Mk.W4.four {l : List Nat} (h : Mk.W4 l) : ∃ a b c d : Nat, l = [a, b, c, d] := ⟨_, _, _, _, Mk.len4 h.1⟩
/-- A text's bytes, of a value. -/
def strLen : Value → Nat
  | .string s => s.size
  | _ => 0
def boolNum : Value → Nat
  | .bool true => 1
  | _ => 0
end Go.Proofs.YthmlibapjhmdbaaDoor
