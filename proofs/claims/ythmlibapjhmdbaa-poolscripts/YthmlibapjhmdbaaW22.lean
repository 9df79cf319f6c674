/- The document's Assign, where nothing is laid. -/
import Derived.Test.YthmlibapjhmdbaaW20
import Derived.Test.YthmlibapjhmdbaaQ11
namespace Go.Proofs.Ythmlibapjhmdbaa
open Go.RowKit Go.Shelf
theorem natsIn {w : World} {A : Option Addr} {xs : List Nat} (h : NatsAt w w.heap.size A xs) (n : In w.heap.size w) : NatsAt n.val n.val.heap.size A xs := (h.below n.ok).more n.ok.size
/-- A slice of these numbers, and a code. -/
def Told (w : World) (xs : List Nat) (n : Nat) (er : Int) (e : Ending) (w' : World) : Prop :=
  ∃ A cap, e = .returned (.tuple #[.slice A n cap, .int .i64 er]) ∧ NatsAt w' w'.heap.size A xs ∧ Below w.heap.size w w'

set_option maxRecDepth 100000 in
set_option maxHeartbeats 1000000 in
theorem rAssign_no (s p d r q : Int) (a b c e : Nat) (w : World) (hd : ∀ W, Calls Try.prog 62 #[.agg #[.int .i64 s, .int .i64 p], .int .i64 d] W fun e w' => e = .returned (.tuple #[.slice none 0 0, .int .i64 1]) ∧ Below W.heap.size W w') :
    Calls Try.prog 51 #[.agg #[.int .i64 s, .int .i64 p], .agg #[.int .u64 a, .int .u64 b, .int .u64 c, .int .u64 e, .int .i64 r, .int .i64 q, .int .i64 d]] w fun e w' => e = .returned (.tuple #[.slice none 0 0, .int .i64 1]) ∧ Below w.heap.size w w' := by
  have HD := Lib.hid hd
  clear hd
  have hb0 := ((Below.refl _ w).alloc (Nat.le_refl _) (.cells #[.int .i64 s, .int .i64 p] 23)).alloc (by simp) (.cells #[.int .u64 a, .int .u64 b, .int .u64 c, .int .u64 e, .int .i64 r, .int .i64 q, .int .i64 d] 37)
  go_enter Try.func51, Try.ntmps51
  go_wp2_with fail
  refine (HD.out _).mono ?_
  rintro e w2 ⟨rfl, hb2⟩
  replace hb0 := bmore hb0 hb2
  clear hb2
  go_wp2_with fail
  go_ret2
  exact ⟨rfl, hb0⟩

set_option maxRecDepth 100000 in
set_option maxHeartbeats 1000000 in
theorem rAssign_arg (s p d r q : Int) (xs : List Nat) (n a b c e : Nat) (w : World) (hd : ∀ W, Calls Try.prog 62 #[.agg #[.int .i64 s, .int .i64 p], .int .i64 d] W (Told W xs n 0)) (hr : RBad r q) :
    Calls Try.prog 51 #[.agg #[.int .i64 s, .int .i64 p], .agg #[.int .u64 a, .int .u64 b, .int .u64 c, .int .u64 e, .int .i64 r, .int .i64 q, .int .i64 d]] w fun e w' => e = .returned (.tuple #[.slice none 0 0, .int .i64 1]) ∧ Below w.heap.size w w' := by
  have HD := Lib.hid hd
  have HR := Lib.hid hr
  clear hd hr
  have hb0 := ((Below.refl _ w).alloc (Nat.le_refl _) (.cells #[.int .i64 s, .int .i64 p] 23)).alloc (by simp) (.cells #[.int .u64 a, .int .u64 b, .int .u64 c, .int .u64 e, .int .i64 r, .int .i64 q, .int .i64 d] 37)
  have k1 : Bk ((w.alloc (.cells #[.int .i64 s, .int .i64 p] 23)).alloc (.cells #[.int .u64 a, .int .u64 b, .int .u64 c, .int .u64 e, .int .i64 r, .int .i64 q, .int .i64 d] 37)) (w.heap.size + 1) 37 #[.int .u64 a, .int .u64 b, .int .u64 c, .int .u64 e, .int .i64 r, .int .i64 q, .int .i64 d] := by
    have := Bk.new (w.alloc (.cells #[.int .i64 s, .int .i64 p] 23)) 37 #[.int .u64 a, .int .u64 b, .int .u64 c, .int .u64 e, .int .i64 r, .int .i64 q, .int .i64 d]
    rw [size_alloc] at this
    exact this
  go_enter Try.func51, Try.ntmps51
  go_wp2_with fail
  refine (HD.out _).mono ?_
  rintro e w2 ⟨A, ca, rfl, hA, hb2⟩
  replace hb0 := bmore hb0 hb2
  replace k1 := k1.next hb2
  clear hb2 hA
  have c4 := k1.cell 4 _ rfl
  have c5 := k1.cell 5 _ rfl
  by_cases h1 : r < 1
  · go_wp2_with fail
    go_ret2
    exact ⟨rfl, hb0⟩
  · have t1 : decide (r < 1) = false := by simpa using h1
    by_cases h2 : 32 < r
    · clear h1
      go_wp2_with fail
      go_ret2
      exact ⟨rfl, hb0⟩
    · have t2 : decide (32 < r) = false := by simpa using h2
      by_cases h3 : q < 1
      · clear h1 h2
        go_wp2_with fail
        go_ret2
        exact ⟨rfl, hb0⟩
      · have t3 : decide (q < 1) = false := by simpa using h3
        have h4 : 256 < q := by have := HR.out; unfold RBad at this; omega
        clear h1 h2 h3
        go_wp2_with fail
        go_ret2
        exact ⟨rfl, hb0⟩

/-- The free ones of the first k. -/
def frk (F : List Nat) (xs : List Nat) (k : Nat) : List Nat := (xs.take k).filter fun x => Mk.hasB F x
theorem frk_hit {F xs : List Nat} {k : Nat} (hk : k < xs.length) (h : Mk.hasB F (Mk.nth xs k) = true) : frk F xs (k + 1) = frk F xs k ++ [Mk.nth xs k] := by
  unfold frk; rw [take_snoc xs k hk, List.filter_append]; simp [h]
theorem frk_miss {F xs : List Nat} {k : Nat} (hk : k < xs.length) (h : Mk.hasB F (Mk.nth xs k) = false) : frk F xs (k + 1) = frk F xs k := by
  unfold frk; rw [take_snoc xs k hk, List.filter_append]; simp [h]
theorem frk_len (F xs : List Nat) (k : Nat) : (frk F xs k).length ≤ k := by
  unfold frk
  exact Nat.le_trans (List.length_filter_le _ _) (List.length_take_le _ _)
theorem frk_lt {F xs : List Nat} (h : ∀ x ∈ xs, x < 256) (k : Nat) : ∀ x ∈ frk F xs k, x < 256 := fun x hx => h x (List.mem_of_mem_take (List.mem_filter.1 hx).1)
theorem fr_vals (F : List Nat) (l : List Core) : (fr F l).map (·.1) = (l.map (·.1)).filter fun x => Mk.hasB F x := by
  unfold fr
  rw [List.filter_map]
  rfl
end Go.Proofs.Ythmlibapjhmdbaa
