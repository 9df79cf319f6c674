/- Masks of ranks: apart, free, of the layout. Plain facts. -/
import Derived.Test.YteggadafcedojaaW25
import Derived.Test.YteggadafcedojaaW20
namespace Go.Proofs.Yteggadafcedojaa
open Go.RowKit Go.Shelf

theorem zw_out {g : Nat → Nat → Nat} {a b : List Nat} (ha : a.length = 4) (hb : b.length = 4) {k : Nat} (hk : 4 ≤ k) : Mk.nth (zw g a b) k = 0 := by
  rw [Mk.nth_getElem?, List.getElem?_eq_none (by rw [zw_len ha hb]; exact hk)]; rfl
theorem zw_W4 {g : Nat → Nat → Nat} (hg : ∀ x y, x < 2 ^ 64 → y < 2 ^ 64 → g x y < 2 ^ 64) {a b : List Nat} (ha : Mk.W4 a) (hb : Mk.W4 b) : Mk.W4 (zw g a b) := by
  refine ⟨zw_len ha.1 hb.1, fun i => ?_⟩
  by_cases hi : i < 4
  · rw [zw_nth ha.1 hb.1 hi]; exact hg _ _ (ha.2 i) (hb.2 i)
  · rw [zw_out ha.1 hb.1 (by omega)]; exact Nat.two_pow_pos 64
theorem land_W4 {a b : List Nat} (ha : Mk.W4 a) (hb : Mk.W4 b) : Mk.W4 (zw Nat.land a b) := zw_W4 (fun x _ _ hy => Nat.and_lt_two_pow x hy) ha hb
theorem lor_W4 {a b : List Nat} (ha : Mk.W4 a) (hb : Mk.W4 b) : Mk.W4 (zw Nat.lor a b) := zw_W4 (fun _ _ hx hy => Nat.or_lt_two_pow hx hy) ha hb
theorem andN_W4 {a b : List Nat} (ha : Mk.W4 a) (hb : Mk.W4 b) : Mk.W4 (zw andN a b) := zw_W4 (fun x y _ _ => Nat.and_lt_two_pow x (by show _ < 18446744073709551616; omega)) ha hb
theorem has_land {a b : List Nat} (ha : Mk.W4 a) (hb : Mk.W4 b) {d : Nat} (hd : d < 256) : Mk.hasB (zw Nat.land a b) d = (Mk.hasB a d && Mk.hasB b d) := by
  unfold Mk.hasB
  rw [zw_nth ha.1 hb.1 (by omega)]
  exact Nat.testBit_and _ _ _
theorem has_lor {a b : List Nat} (ha : Mk.W4 a) (hb : Mk.W4 b) {d : Nat} (hd : d < 256) : Mk.hasB (zw Nat.lor a b) d = (Mk.hasB a d || Mk.hasB b d) := by
  unfold Mk.hasB
  rw [zw_nth ha.1 hb.1 (by omega)]
  exact Nat.testBit_or _ _ _
theorem has_andN {a b : List Nat} (ha : Mk.W4 a) (hb : Mk.W4 b) {d : Nat} (hd : d < 256) : Mk.hasB (zw andN a b) d = (Mk.hasB a d && !Mk.hasB b d) := by
  unfold Mk.hasB
  rw [zw_nth ha.1 hb.1 (by omega)]
  have hy := hb.2 (d / 64)
  have hj : d % 64 < 64 := by omega
  generalize Mk.nth b (d / 64) = y at *
  unfold andN
  rw [Nat.testBit_and, show 18446744073709551615 - y = 2 ^ 64 - (y + 1) by omega, Nat.testBit_two_pow_sub_succ hy]
  simp [hj]
/-- The masks of the ranks, and what the first k of them have together. -/
def rankAt (zs : List Nat) (Q k : Nat) : List Nat := Mk.ofL ((zs.drop (k * Q)).take Q)
def first (zs : List Nat) (Q k : Nat) : List Nat := Mk.ofL (zs.take (k * Q))
section
variable {zs : List Nat} {Q R k : Nat} (hz : ∀ x ∈ zs, x < 256) (hn : zs.Nodup) (hl : zs.length = R * Q)
include hz
theorem part_lt : ∀ x ∈ (zs.drop (k * Q)).take Q, x < 256 := fun x hx => hz x (List.mem_of_mem_drop (List.mem_of_mem_take hx))
theorem take_lt {j : Nat} : ∀ x ∈ zs.take j, x < 256 := fun x hx => hz x (List.mem_of_mem_take hx)
theorem rankAt_W4 : Mk.W4 (rankAt zs Q k) := Mk.ofL_W4 (part_lt hz)
theorem first_W4 : Mk.W4 (first zs Q k) := Mk.ofL_W4 (take_lt hz)
theorem first_step : zw Nat.lor (first zs Q k) (rankAt zs Q k) = first zs Q (k + 1) := by
  refine Mk.ext (lor_W4 (first_W4 hz) (rankAt_W4 hz)) (first_W4 hz) fun d hd => ?_
  rw [has_lor (first_W4 hz) (rankAt_W4 hz) hd]
  unfold first rankAt
  rw [Mk.has_ofL (take_lt hz), Mk.has_ofL (take_lt hz), Mk.has_ofL (part_lt hz), Nat.add_mul, Nat.one_mul, List.take_add, ← Bool.decide_or]
  simp only [List.mem_append]
theorem rank_free {F : List Nat} (hF : Mk.W4 F) (h : ∀ x ∈ zs, Mk.hasB F x = true) : zw andN (rankAt zs Q k) F = Mk.zero := by
  refine Mk.ext (andN_W4 (rankAt_W4 hz) hF) Mk.W4.zero fun d hd => ?_
  rw [has_andN (rankAt_W4 hz) hF hd, Mk.has_zero]
  unfold rankAt
  rw [Mk.has_ofL (part_lt hz)]
  by_cases hm : d ∈ (zs.drop (k * Q)).take Q
  · rw [h d (List.mem_of_mem_drop (List.mem_of_mem_take hm))]; simp
  · simp [hm]
include hn
theorem rank_apart : zw Nat.land (rankAt zs Q k) (first zs Q k) = Mk.zero := by
  refine Mk.ext (land_W4 (rankAt_W4 hz) (first_W4 hz)) Mk.W4.zero fun d hd => ?_
  rw [has_land (rankAt_W4 hz) (first_W4 hz) hd, Mk.has_zero]
  unfold rankAt first
  rw [Mk.has_ofL (take_lt hz), Mk.has_ofL (part_lt hz)]
  by_cases hm : d ∈ (zs.drop (k * Q)).take Q
  · have h2 : d ∉ zs.take (k * Q) := by
      intro h2
      have h3 := hn
      rw [← List.take_append_drop (k * Q) zs, List.nodup_append] at h3
      exact h3.2.2 d h2 d (List.mem_of_mem_take hm) rfl
    simp [h2]
  · simp [hm]
theorem rank_cnt (hl : zs.length = R * Q) (hk : k < R) : Mk.cnt (rankAt zs Q k) = Q := by
  unfold rankAt
  rw [Mk.cnt_ofL (part_lt hz) (hn.sublist ((List.take_sublist _ _).trans (List.drop_sublist _ _))), List.length_take, List.length_drop, hl]
  have : (k + 1) * Q ≤ R * Q := Nat.mul_le_mul_right Q hk
  rw [Nat.add_mul, Nat.one_mul] at this
  omega
theorem first_cnt (hl : zs.length = R * Q) : Mk.cnt (first zs Q R) = R * Q := by
  unfold first
  rw [Mk.cnt_ofL (take_lt hz) (hn.sublist (List.take_sublist _ _)), List.length_take, hl, Nat.min_self]
end
theorem first_zero (zs : List Nat) (Q : Nat) : first zs Q 0 = Mk.zero := by simp [first, Mk.ofL]

/-! ### The contracts, words written out -/
theorem count4 {m0 m1 m2 m3 : Nat} {q : Nat} (h : Mk.W4 [m0, m1, m2, m3]) (hc : Mk.cnt [m0, m1, m2, m3] = q) (w : World) :
    Calls Try.prog 24 #[.agg #[.int .u64 m0, .int .u64 m1, .int .u64 m2, .int .u64 m3]] w fun e w' => e = .returned (.int .i64 q) ∧ Below w.heap.size w w' := by
  have := mcount_any _ w h
  rw [hc] at this
  exact this
theorem and4 {m0 m1 m2 m3 u0 u1 u2 u3 : Nat} (h : Mk.W4 [m0, m1, m2, m3]) (hu : Mk.W4 [u0, u1, u2, u3]) (hc : zw Nat.land [m0, m1, m2, m3] [u0, u1, u2, u3] = Mk.zero) (w : World) :
    Calls Try.prog 25 #[.agg #[.int .u64 m0, .int .u64 m1, .int .u64 m2, .int .u64 m3], .agg #[.int .u64 u0, .int .u64 u1, .int .u64 u2, .int .u64 u3]] w fun e w' => e = .returned (.agg #[.int .u64 0, .int .u64 0, .int .u64 0, .int .u64 0]) ∧ Below w.heap.size w w' := by
  have := and_any _ _ w h hu
  rw [hc] at this
  exact this
theorem minus4 {m0 m1 m2 m3 u0 u1 u2 u3 : Nat} (h : Mk.W4 [m0, m1, m2, m3]) (hu : Mk.W4 [u0, u1, u2, u3]) (hc : zw andN [m0, m1, m2, m3] [u0, u1, u2, u3] = Mk.zero) (w : World) :
    Calls Try.prog 26 #[.agg #[.int .u64 m0, .int .u64 m1, .int .u64 m2, .int .u64 m3], .agg #[.int .u64 u0, .int .u64 u1, .int .u64 u2, .int .u64 u3]] w fun e w' => e = .returned (.agg #[.int .u64 0, .int .u64 0, .int .u64 0, .int .u64 0]) ∧ Below w.heap.size w w' := by
  have := minus_any _ _ w h hu
  rw [hc] at this
  exact this
theorem or4e {m0 m1 m2 m3 u0 u1 u2 u3 v0 v1 v2 v3 : Nat} (hu : Mk.W4 [u0, u1, u2, u3]) (h : Mk.W4 [m0, m1, m2, m3]) (hc : zw Nat.lor [u0, u1, u2, u3] [m0, m1, m2, m3] = [v0, v1, v2, v3]) (w : World) :
    Calls Try.prog 27 #[.agg #[.int .u64 u0, .int .u64 u1, .int .u64 u2, .int .u64 u3], .agg #[.int .u64 m0, .int .u64 m1, .int .u64 m2, .int .u64 m3]] w fun e w' => e = .returned (.agg #[.int .u64 v0, .int .u64 v1, .int .u64 v2, .int .u64 v3]) ∧ Below w.heap.size w w' := by
  have := or_any _ _ w hu h
  rw [hc] at this
  exact this
theorem Mk.W4.four {l : List Nat} (h : Mk.W4 l) : ∃ a b c d : Nat, l = [a, b, c, d] := ⟨_, _, _, _, Mk.len4 h.1⟩
theorem MasksAt.hid {w w2 : World} {B g : Nat} {ms : List (List Nat)} (h : MasksAt w B g ms) (e : Hid (w2 = w.drew)) : MasksAt w2 B g ms := by rw [e.out]; exact h
end Go.Proofs.Yteggadafcedojaa
