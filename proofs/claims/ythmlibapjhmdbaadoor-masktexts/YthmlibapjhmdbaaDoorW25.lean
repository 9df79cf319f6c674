/- Sets: plain facts; own and told, which turn one type of mask into the other. -/
import Derived.Test.YthmlibapjhmdbaaDoorW24
namespace Go.Proofs.YthmlibapjhmdbaaDoor
open Go.RowKit Go.Shelf

theorem zw_out {g : Nat → Nat → Nat} {a b : List Nat} (ha : a.length = 4) (hb : b.length = 4) {k : Nat} (hk : 4 ≤ k) : Mk.nth (zw g a b) k = 0 := by
  rw [Mk.nth_getElem?, List.getElem?_eq_none (by rw [zw_len ha hb]; exact hk)]; rfl
theorem zw_W4 {g : Nat → Nat → Nat} (hg : ∀ x y, x < 2 ^ 64 → y < 2 ^ 64 → g x y < 2 ^ 64) {a b : List Nat} (ha : Mk.W4 a) (hb : Mk.W4 b) : Mk.W4 (zw g a b) := by
  refine ⟨zw_len ha.1 hb.1, fun i => ?_⟩
  by_cases hi : i < 4
  · rw [zw_nth ha.1 hb.1 hi]; exact hg _ _ (ha.2 i) (hb.2 i)
  · rw [zw_out ha.1 hb.1 (by omega)]; exact Nat.two_pow_pos 64
theorem land_W4 {a b : List Nat} (ha : Mk.W4 a) (hb : Mk.W4 b) : Mk.W4 (zw Nat.land a b) := zw_W4 (fun x _ _ hy => Nat.and_lt_two_pow x hy) ha hb
theorem lor_W4 {a b : List Nat} (ha : Mk.W4 a) (hb : Mk.W4 b) : Mk.W4 (zw Nat.lor a b) := zw_W4 (fun _ _ hx hy => Nat.or_lt_two_pow hx hy) ha hb
theorem andN_W4 {a b : List Nat} (ha : Mk.W4 a) (hb : Mk.W4 b) : Mk.W4 (zw andN a b) := zw_W4 (fun x y _ _ => Nat.and_lt_two_pow x (by show _ < 18446744073709551616; omega)) ha hb
theorem has_land {a b : List Nat} (ha : Mk.W4 a) (hb : Mk.W4 b) {d : Nat} (hd : d < 256) : Mk.hasB (zw Nat.land a b) d = (Mk.hasB a d && Mk.hasB b d) := by
  unfold Mk.hasB
  rw [zw_nth ha.1 hb.1 (by omega)]
  exact Nat.testBit_and _ _ _
theorem has_lor {a b : List Nat} (ha : Mk.W4 a) (hb : Mk.W4 b) {d : Nat} (hd : d < 256) : Mk.hasB (zw Nat.lor a b) d = (Mk.hasB a d || Mk.hasB b d) := by
  unfold Mk.hasB
  rw [zw_nth ha.1 hb.1 (by omega)]
  exact Nat.testBit_or _ _ _
theorem has_andN {a b : List Nat} (ha : Mk.W4 a) (hb : Mk.W4 b) {d : Nat} (hd : d < 256) : Mk.hasB (zw andN a b) d = (Mk.hasB a d && !Mk.hasB b d) := by
  unfold Mk.hasB
  rw [zw_nth ha.1 hb.1 (by omega)]
  have hy := hb.2 (d / 64)
  have hj : d % 64 < 64 := by omega
  generalize Mk.nth b (d / 64) = y at *
  unfold andN
  rw [Nat.testBit_and, show 18446744073709551615 - y = 2 ^ 64 - (y + 1) by omega, Nat.testBit_two_pow_sub_succ hy]
  simp [hj]

theorem pcr_and_or : ∀ n a b : Nat, Mk.pcr n (a &&& b) + Mk.pcr n (a ||| b) = Mk.pcr n a + Mk.pcr n b
  | 0, _, _ => rfl
  | n + 1, a, b => by
    have ih := pcr_and_or n (a / 2) (b / 2)
    simp only [Mk.pcr]
    rw [Nat.and_div_two, Nat.or_div_two]
    have h : (a &&& b) % 2 + (a ||| b) % 2 = a % 2 + b % 2 := by
      have h1 := Nat.and_mod_two_pow (n := 1) (a := a) (b := b)
      have h2 := Nat.or_mod_two_pow (n := 1) (a := a) (b := b)
      simp only [Nat.pow_one] at h1 h2
      rw [h1, h2]
      rcases Nat.mod_two_eq_zero_or_one a with e | e <;> rcases Nat.mod_two_eq_zero_or_one b with f | f <;> rw [e, f] <;> decide
    omega
theorem cnt_and_or {a b : List Nat} (ha : a.length = 4) (hb : b.length = 4) : Mk.cnt (zw Nat.land a b) + Mk.cnt (zw Nat.lor a b) = Mk.cnt a + Mk.cnt b := by
  have h := fun k (hk : k < 4) => pcr_and_or 64 (Mk.nth a k) (Mk.nth b k)
  have e1 := fun k (hk : k < 4) => zw_nth (g := Nat.land) ha hb hk
  have e2 := fun k (hk : k < 4) => zw_nth (g := Nat.lor) ha hb hk
  unfold Mk.cnt
  rw [e1 0 (by omega), e1 1 (by omega), e1 2 (by omega), e1 3 (by omega), e2 0 (by omega), e2 1 (by omega), e2 2 (by omega), e2 3 (by omega)]
  have h0 := h 0 (by omega)
  have h1 := h 1 (by omega)
  have h2 := h 2 (by omega)
  have h3 := h 3 (by omega)
  simp only [HAnd.hAnd, AndOp.and, HOr.hOr, OrOp.or] at h0 h1 h2 h3
  omega

set_option maxRecDepth 100000 in
set_option maxHeartbeats 400000 in
theorem own_any (a0 a1 a2 a3 : Int) (w : World) :
    Calls Tryd.prog 10 #[.agg #[.int .u64 a0, .int .u64 a1, .int .u64 a2, .int .u64 a3]] w fun e w' => e = .returned (.agg #[.int .u64 a0, .int .u64 a1, .int .u64 a2, .int .u64 a3]) ∧ Below w.heap.size w w' := by
  go_enter Tryd.func10, Tryd.ntmps10
  go_wp2
  refine bodyPost_ret (v := .agg #[.int .u64 a0, .int .u64 a1, .int .u64 a2, .int .u64 a3]) (by simp [results, Tryd.results10, go_sem]) rfl ⟨rfl, ?_⟩
  exact ((Below.refl _ _).alloc (Nat.le_refl _) _).alloc (by simp) _

section
variable {x y z : List Nat}
theorem land_comm4 (hx : Mk.W4 x) (hy : Mk.W4 y) : zw Nat.land y x = zw Nat.land x y :=
  Mk.ext (land_W4 hy hx) (land_W4 hx hy) fun d hd => by rw [has_land hy hx hd, has_land hx hy hd, Bool.and_comm]
theorem lor_comm4 (hx : Mk.W4 x) (hy : Mk.W4 y) : zw Nat.lor y x = zw Nat.lor x y :=
  Mk.ext (lor_W4 hy hx) (lor_W4 hx hy) fun d hd => by rw [has_lor hy hx hd, has_lor hx hy hd, Bool.or_comm]
theorem and_or4 (hx : Mk.W4 x) (hy : Mk.W4 y) (hz : Mk.W4 z) : zw Nat.lor (zw Nat.land x y) (zw Nat.land x z) = zw Nat.land x (zw Nat.lor y z) :=
  Mk.ext (lor_W4 (land_W4 hx hy) (land_W4 hx hz)) (land_W4 hx (lor_W4 hy hz)) fun d hd => by
    rw [has_lor (land_W4 hx hy) (land_W4 hx hz) hd, has_land hx hy hd, has_land hx hz hd, has_land hx (lor_W4 hy hz) hd, has_lor hy hz hd, Bool.and_or_distrib_left]
theorem minus_or4 (hx : Mk.W4 x) (hy : Mk.W4 y) (hz : Mk.W4 z) : zw andN (zw andN x y) z = zw andN x (zw Nat.lor y z) :=
  Mk.ext (andN_W4 (andN_W4 hx hy) hz) (andN_W4 hx (lor_W4 hy hz)) fun d hd => by
    rw [has_andN (andN_W4 hx hy) hz hd, has_andN hx hy hd, has_andN hx (lor_W4 hy hz) hd, has_lor hy hz hd]
    cases Mk.hasB x d <;> cases Mk.hasB y d <;> cases Mk.hasB z d <;> rfl
theorem minus_and4 (hx : Mk.W4 x) (hy : Mk.W4 y) : zw Nat.lor (zw andN x y) (zw Nat.land x y) = x :=
  Mk.ext (lor_W4 (andN_W4 hx hy) (land_W4 hx hy)) hx fun d hd => by
    rw [has_lor (andN_W4 hx hy) (land_W4 hx hy) hd, has_andN hx hy hd, has_land hx hy hd]
    cases Mk.hasB x d <;> cases Mk.hasB y d <;> rfl
theorem minus_none4 (hx : Mk.W4 x) (hy : Mk.W4 y) : zw Nat.land (zw andN x y) y = Mk.zero :=
  Mk.ext (land_W4 (andN_W4 hx hy) hy) Mk.W4.zero fun d hd => by
    rw [has_land (andN_W4 hx hy) hy hd, has_andN hx hy hd, Mk.has_zero]
    cases Mk.hasB x d <;> cases Mk.hasB y d <;> rfl
end
end Go.Proofs.YthmlibapjhmdbaaDoor
