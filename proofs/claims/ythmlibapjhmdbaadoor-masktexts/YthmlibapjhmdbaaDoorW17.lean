/- Text. -/
import Derived.Test.YthmlibapjhmdbaaDoorW16
namespace Go.Proofs.YthmlibapjhmdbaaDoor
open Go.RowKit Go.Shelf

attribute [local go_sem] Oper.semAt_some

/-- Whether the core ahead of this one is there too. -/
def ahead (m : List Nat) (x : Nat) : Bool := decide (0 < x) && Mk.hasB m (x - 1)
/-- A text, and one range more if one begins here. -/
def tstep (m : List Nat) (t : ByteArray) (x : Nat) : ByteArray := if ahead m x = true then t else (if (t.toList == []) = true then t else t ++ ⟨#[44]⟩) ++ rangeT x (lastOf m x)
def textOf (m : List Nat) (l : List Nat) : ByteArray := l.foldl (tstep m) ByteArray.empty
theorem textOf_snoc (m l : List Nat) (x : Nat) : textOf m (l ++ [x]) = tstep m (textOf m l) x := by simp [textOf]
theorem runE_lt (m : List Nat) (hm : m.length = 4) : ∀ n f, f < 256 → runE m n f < 256
  | 0, f, h => h
  | n + 1, f, h => by
    rw [runE]
    split
    · rename_i hh
      refine runE_lt m hm n (f + 1) ?_
      rcases Nat.lt_or_ge (f + 1) 256 with h2 | h2
      · exact h2
      · rw [Mk.has_out hm _ h2] at hh; cases hh
    · exact h
theorem rangeT_size {a b : Nat} (ha : a < 256) (hb : b < 256) : (rangeT a b).size ≤ 7 := by
  have h1 := dec_size ha
  have h2 := dec_size hb
  unfold rangeT
  split
  · omega
  · rw [ByteArray.size_append, ByteArray.size_append]
    have : (⟨#[45]⟩ : ByteArray).size = 1 := rfl
    omega
theorem tstep_size {m : List Nat} (hm : m.length = 4) (t : ByteArray) {x : Nat} (hx : x < 256) : (tstep m t x).size ≤ t.size + 8 := by
  have h1 := rangeT_size hx (runE_lt m hm 256 x hx)
  unfold tstep lastOf
  split
  · omega
  · rw [ByteArray.size_append]
    split
    · omega
    · rw [ByteArray.size_append]
      have : (⟨#[44]⟩ : ByteArray).size = 1 := rfl
      omega
theorem textOf_size {m : List Nat} (hm : m.length = 4) : ∀ (l : List Nat), (∀ x ∈ l, x < 256) → (textOf m l).size ≤ 8 * l.length := by
  have key : ∀ (l : List Nat) (t : ByteArray), (∀ x ∈ l, x < 256) → (l.foldl (tstep m) t).size ≤ t.size + 8 * l.length := by
    intro l
    induction l with
    | nil => intro t _; simp
    | cons x l ih =>
      intro t h
      have h1 := ih (tstep m t x) (fun y hy => h y (by simp [hy]))
      have h2 := tstep_size hm t (h x (by simp))
      rw [List.foldl_cons, List.length_cons]
      omega
  intro l h
  have := key l ByteArray.empty h
  have h0 : ByteArray.empty.size = 0 := rfl
  unfold textOf
  omega
theorem has_ahead (a b c e x : Nat) (w : World) (hm : Mk.W4 [a, b, c, e]) :
    Calls Tryd.prog 19 #[.agg #[.int .u64 a, .int .u64 b, .int .u64 c, .int .u64 e], .int .i64 ((x : Int) - 1)] w fun r w' => r = .returned (.bool (ahead [a, b, c, e] x)) ∧ Below w.heap.size w w' := by
  unfold ahead
  cases x with
  | zero => exact has_no [a, b, c, e] _ w (.inl (by simp))
  | succ n =>
    have := has_four a b c e n w hm
    simp only [Nat.zero_lt_succ, decide_true, Bool.true_and, Nat.add_sub_cancel]
    rw [show ((n + 1 : Nat) : Int) - 1 = (n : Int) by omega]
    exact this
end Go.Proofs.YthmlibapjhmdbaaDoor
