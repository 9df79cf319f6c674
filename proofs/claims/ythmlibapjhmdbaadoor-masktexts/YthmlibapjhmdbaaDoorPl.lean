/- Plain facts on the cores of a mask, rising. -/
import Derived.Test.YthmlibapjhmdbaaDoorW25
namespace Go.Proofs.YthmlibapjhmdbaaDoor
open Go.RowKit Go.Shelf

/-- The cores of a mask, rising, as numbers. -/
def S (m : List Nat) : List Nat := (List.range 256).filter (Mk.hasB m)
theorem nums_lc (m : List Nat) : nums (lc m 256) = S m := by
  unfold nums lc S
  rw [List.map_map]
  conv => rhs; rw [← List.map_id ((List.range 256).filter (Mk.hasB m))]
  apply List.map_congr_left
  intro x hx
  have : x < 256 := by simpa using (List.mem_filter.1 hx).1
  simp [mkC, this]
theorem lc_S (m : List Nat) : lc m 256 = (S m).map mkC := rfl
theorem S_lt (m : List Nat) : ∀ x ∈ S m, x < 256 := fun x hx => by simpa using (List.mem_filter.1 hx).1
theorem S_has {m : List Nat} {x : Nat} : x ∈ S m ↔ x < 256 ∧ Mk.hasB m x = true := by simp [S]
theorem S_pair (m : List Nat) : (S m).Pairwise (· < ·) := List.pairwise_lt_range.filter _
theorem S_nodup (m : List Nat) : (S m).Nodup := (S_pair m).imp (fun h => Nat.ne_of_lt h)
theorem S_len (m : List Nat) : (lc m 256).length = (S m).length := by rw [lc_S, List.length_map]
theorem S_ofL {xs : List Nat} (hx : ∀ x ∈ xs, x < 256) : S (Mk.ofL xs) = (List.range 256).filter (fun d => decide (d ∈ xs)) := by
  unfold S
  apply List.filter_congr
  intro d _
  exact Mk.has_ofL hx d
theorem filter_take {l : List Nat} (h : l.Nodup) (n : Nat) : l.filter (fun d => decide (d ∈ l.take n)) = l.take n := by
  conv => lhs; rw [← List.take_append_drop n l]
  rw [List.filter_append]
  have hd : ∀ x, x ∈ l.drop n → x ∉ l.take n := by
    intro x h1 h2
    rw [← List.take_append_drop n l, List.nodup_append] at h
    exact h.2.2 x h2 x h1 rfl
  rw [List.filter_eq_self.2 (by intro a ha; simpa [List.take_append_drop] using ha), List.filter_eq_nil_iff.2 (by intro a ha; simpa [List.take_append_drop] using hd a ha), List.append_nil]
theorem filter_drop {l : List Nat} (h : l.Nodup) (n : Nat) : l.filter (fun d => !decide (d ∈ l.take n)) = l.drop n := by
  conv => lhs; rw [← List.take_append_drop n l]
  rw [List.filter_append]
  have hd : ∀ x, x ∈ l.drop n → x ∉ l.take n := by
    intro x h1 h2
    rw [← List.take_append_drop n l, List.nodup_append] at h
    exact h.2.2 x h2 x h1 rfl
  rw [List.filter_eq_nil_iff.2 (by intro a ha; simpa [List.take_append_drop] using ha), List.filter_eq_self.2 (by intro a ha; simpa [List.take_append_drop] using hd a ha), List.nil_append]
theorem take_lt (m : List Nat) (n : Nat) : ∀ x ∈ (S m).take n, x < 256 := fun x hx => S_lt m x (List.mem_of_mem_take hx)
theorem S_take (m : List Nat) (n : Nat) : S (Mk.ofL ((S m).take n)) = (S m).take n := by
  rw [S_ofL (take_lt m n)]
  have e : (List.range 256).filter (fun d => decide (d ∈ (S m).take n)) = (S m).filter (fun d => decide (d ∈ (S m).take n)) := by
    conv => rhs; unfold S
    rw [List.filter_filter]
    apply List.filter_congr
    intro d _
    by_cases hd : d ∈ (S m).take n
    · have := (S_has.1 (List.mem_of_mem_take hd)).2
      have hd' : d ∈ List.take n (List.filter (Mk.hasB m) (List.range 256)) := hd
      simp [hd, hd', this]
    · have hd' : d ∉ List.take n (List.filter (Mk.hasB m) (List.range 256)) := hd
      simp [hd, hd']
  rw [e, filter_take (S_nodup m)]
theorem S_drop {m : List Nat} (hm : Mk.W4 m) (n : Nat) : S (zw andN m (Mk.ofL ((S m).take n))) = (S m).drop n := by
  have e : S (zw andN m (Mk.ofL ((S m).take n))) = (S m).filter (fun d => !decide (d ∈ (S m).take n)) := by
    conv => rhs; unfold S
    rw [List.filter_filter]
    unfold S
    apply List.filter_congr
    intro d hd
    show Mk.hasB (zw andN m (Mk.ofL ((S m).take n))) d = (!decide (d ∈ (S m).take n) && Mk.hasB m d)
    rw [has_andN hm (Mk.ofL_W4 (take_lt m n)) (by simpa using hd), Mk.has_ofL (take_lt m n), Bool.and_comm]
  rw [e, filter_drop (S_nodup m)]
theorem take_sub {m : List Nat} (hm : Mk.W4 m) (n : Nat) : zw andN (Mk.ofL ((S m).take n)) m = Mk.zero := by
  refine Mk.ext (andN_W4 (Mk.ofL_W4 (take_lt m n)) hm) Mk.W4.zero fun d hd => ?_
  rw [has_andN (Mk.ofL_W4 (take_lt m n)) hm hd, Mk.has_ofL (take_lt m n), Mk.has_zero]
  by_cases h : d ∈ (S m).take n
  · have := (S_has.1 (List.mem_of_mem_take h)).2
    simp [this]
  · simp [h]
theorem take_drop_lt (m : List Nat) (n : Nat) : ∀ x ∈ (S m).take n, ∀ y ∈ (S m).drop n, x < y := by
  have h := S_pair m
  rw [← List.take_append_drop n (S m), List.pairwise_append] at h
  exact h.2.2

/-- Bits of a word, counted. -/
theorem pcr_count : ∀ n x : Nat, Mk.pcr n x = ((List.range n).filter (fun i => x.testBit i)).length
  | 0, _ => rfl
  | n + 1, x => by
    rw [Mk.pcr, pcr_count n (x / 2), List.range_succ_eq_map, List.filter_cons]
    have e : ((List.range n).map Nat.succ).filter (fun i => x.testBit i) = ((List.range n).filter (fun i => (x / 2).testBit i)).map Nat.succ := by
      rw [List.filter_map]
      congr 1
      apply List.filter_congr
      intro i _
      simp [Nat.testBit_succ]
    rw [e]
    by_cases h : x.testBit 0 = true
    · have h2 : x % 2 = 1 := by simpa [Nat.testBit_zero] using h
      rw [if_pos h, List.length_cons, List.length_map]
      omega
    · have h2 : x % 2 = 0 := by
        have := Nat.mod_two_eq_zero_or_one x
        simp [Nat.testBit_zero] at h
        omega
      rw [if_neg h, List.length_map]
      omega
theorem range_add (a n : Nat) : List.range (a + n) = List.range a ++ (List.range n).map (a + ·) := by
  rw [List.range_add]
theorem count_word (m : List Nat) (k : Nat) : (((List.range 64).map (64 * k + ·)).filter (Mk.hasB m)).length = Mk.pcr 64 (Mk.nth m k) := by
  rw [pcr_count, List.filter_map, List.length_map]
  congr 1
  apply List.filter_congr
  intro i hi
  have : i < 64 := by simpa using hi
  exact has_word m this
theorem S_cnt (m : List Nat) : (S m).length = Mk.cnt m := by
  unfold S Mk.cnt
  rw [show (256 : Nat) = 64 * 3 + 64 from rfl, range_add (64 * 3) 64, show (64 * 3 : Nat) = 64 * 2 + 64 from rfl, range_add (64 * 2) 64, show (64 * 2 : Nat) = 64 * 1 + 64 from rfl, range_add (64 * 1) 64, List.filter_append, List.filter_append, List.filter_append, List.length_append, List.length_append, List.length_append]
  have h0 := count_word m 0
  have h1 := count_word m 1
  have h2 := count_word m 2
  have h3 := count_word m 3
  rw [← h1, ← h2, ← h3, ← h0]
  simp
end Go.Proofs.YthmlibapjhmdbaaDoor
