/- The law CoresMore, walked. -/
import Derived.Test.YteggadafcedojaaW15
namespace Go.Proofs.Yteggadafcedojaa
open Go.RowKit Go.Shelf

attribute [local go_sem] eq33 eq40

theorem cells9 {W : World} {g0 g1 : Nat} {t0 t1 : TypeId} {s p a b c e r q d : Value} (h0 : Bk W g0 t0 #[s, p]) (h1 : Bk W g1 t1 #[a, b, c, e, r, q, d]) :
    W.cell? ⟨g0, 0, none⟩ = some s ∧ W.cell? ⟨g0, 1, none⟩ = some p ∧ W.cell? ⟨g1, 0, none⟩ = some a ∧ W.cell? ⟨g1, 1, none⟩ = some b ∧ W.cell? ⟨g1, 2, none⟩ = some c ∧ W.cell? ⟨g1, 3, none⟩ = some e ∧ W.cell? ⟨g1, 4, none⟩ = some r ∧ W.cell? ⟨g1, 5, none⟩ = some q ∧ W.cell? ⟨g1, 6, none⟩ = some d :=
  ⟨h0.cell 0 _ rfl, h0.cell 1 _ rfl, h1.cell 0 _ rfl, h1.cell 1 _ rfl, h1.cell 2 _ rfl, h1.cell 3 _ rfl, h1.cell 4 _ rfl, h1.cell 5 _ rfl, h1.cell 6 _ rfl⟩
theorem undrew {B : Nat} {a w : World} (h : Below B a.drew w) : Below B a w := ⟨h.os, h.tape, h.output, h.size, h.block⟩

set_option maxRecDepth 100000 in
set_option maxHeartbeats 1000000 in
theorem coresMore_no (s p r q d m0 m1 m2 m3 : Int) (er : Int) (a b c e : Nat) (w : World) (her : (er != 0) = true)
    (hd : ∀ W, Calls Try.prog 19 #[.agg #[.int .i64 s, .int .i64 p], .agg #[.int .u64 a, .int .u64 b, .int .u64 c, .int .u64 e, .int .i64 r, .int .i64 q, .int .i64 d]] W fun x w' => x = .returned (.tuple #[.slice none 0 0, .int .i64 er]) ∧ Below W.heap.size W w') :
    Calls Try.prog 7 #[.agg #[.int .i64 s, .int .i64 p], .agg #[.int .u64 a, .int .u64 b, .int .u64 c, .int .u64 e, .int .i64 r, .int .i64 q, .int .i64 d], .agg #[.int .u64 m0, .int .u64 m1, .int .u64 m2, .int .u64 m3]] w fun x w' => x = .returned (.bool true) ∧ Below w.heap.size w w' := by
  have HD := Lib.hid hd
  clear hd
  have hb0 := (((Below.refl _ w).alloc (Nat.le_refl _) (.cells #[.int .i64 s, .int .i64 p] 23)).alloc (by simp) (.cells #[.int .u64 a, .int .u64 b, .int .u64 c, .int .u64 e, .int .i64 r, .int .i64 q, .int .i64 d] 45)).alloc (by simp; omega) (.cells #[.int .u64 m0, .int .u64 m1, .int .u64 m2, .int .u64 m3] 40)
  have k0 := ((Bk.new w 23 #[.int .i64 s, .int .i64 p]).alloc (.cells #[.int .u64 a, .int .u64 b, .int .u64 c, .int .u64 e, .int .i64 r, .int .i64 q, .int .i64 d] 45)).alloc (.cells #[.int .u64 m0, .int .u64 m1, .int .u64 m2, .int .u64 m3] 40)
  go_enter Try.func7, Try.ntmps7
  go_wp2_with fail
  refine (wish_any _ _ _ _ _ _ _ _).mono ?_
  rintro x w1 ⟨rfl, hb1⟩
  replace hb0 := bmore hb0 hb1
  replace k0 := (k0.next hb1).alloc (.cells #[.int .u64 a, .int .u64 b, .int .u64 c, .int .u64 e, .int .i64 r, .int .i64 q, .int .i64 d] 50)
  have k1 := Bk.new w1 50 #[.int .u64 a, .int .u64 b, .int .u64 c, .int .u64 e, .int .i64 r, .int .i64 q, .int .i64 d]
  replace hb0 := hb0.alloc hb0.size (.cells #[.int .u64 a, .int .u64 b, .int .u64 c, .int .u64 e, .int .i64 r, .int .i64 q, .int .i64 d] 50)
  clear hb1
  go_wp2_with fail
  generalize w1.alloc (.cells #[.int .u64 a, .int .u64 b, .int .u64 c, .int .u64 e, .int .i64 r, .int .i64 q, .int .i64 d] 50) = W1 at *
  have c0 := k0.cell 0 _ rfl
  have c1 := k0.cell 1 _ rfl
  have d0 := k1.cell 0 _ rfl
  have d1 := k1.cell 1 _ rfl
  have d2 := k1.cell 2 _ rfl
  have d3 := k1.cell 3 _ rfl
  have d4 := k1.cell 4 _ rfl
  have d5 := k1.cell 5 _ rfl
  have d6 := k1.cell 6 _ rfl
  have hl0 := k0.lt
  have hl1 := k1.lt
  go_region_held3 (fun W => W.cell? ⟨w.heap.size, 0, none⟩ = some (.int .i64 s) ∧ W.cell? ⟨w.heap.size, 1, none⟩ = some (.int .i64 p) ∧ W.cell? ⟨w1.heap.size, 0, none⟩ = some (.int .u64 a) ∧ W.cell? ⟨w1.heap.size, 1, none⟩ = some (.int .u64 b) ∧ W.cell? ⟨w1.heap.size, 2, none⟩ = some (.int .u64 c) ∧ W.cell? ⟨w1.heap.size, 3, none⟩ = some (.int .u64 e) ∧ W.cell? ⟨w1.heap.size, 4, none⟩ = some (.int .i64 r) ∧ W.cell? ⟨w1.heap.size, 5, none⟩ = some (.int .i64 q) ∧ W.cell? ⟨w1.heap.size, 6, none⟩ = some (.int .i64 d))
    (first | exact ⟨c0, c1, d0, d1, d2, d3, d4, d5, d6⟩ | exact cells9 y0 y1 | exact cells9 x0 x1)
    (first | (go_at_call 9; refine (own_any _ _ _).mono ?_; rintro x w2 ⟨rfl, hb2⟩; have hb2' := undrew hb2; have x0 := k0.below hb2' hl0; have x1 := k1.below hb2' hl1; have hb4 := bmore hb0 hb2') | (go_at_call 19; refine (HD.out _).mono ?_; rintro x w3 ⟨rfl, hb3⟩; have y0 := x0.next hb3; have y1 := x1.next hb3; have hb5 := bmore hb4 hb3))
  go_wp2_with fail
  refine (live_any _).mono ?_
  rintro x w6 ⟨rfl, hb6⟩
  replace hb5 := bmore hb5 hb6
  clear hb6
  go_wp2_with fail
  go_ret
  exact ⟨rfl, hb5⟩

theorem or_has {a b : List Nat} (ha : Mk.W4 a) (hb : Mk.W4 b) (c : Nat) (h : Mk.hasB a c = true) : Mk.hasB (zw Nat.lor a b) c = true := by
  have hc : c < 256 := by
    rcases Nat.lt_or_ge c 256 with h0 | h0
    · exact h0
    · rw [Mk.has_out ha.1 c h0] at h; cases h
  unfold Mk.hasB at *
  rw [zw_nth ha.1 hb.1 (by omega)]
  show (Nat.testBit (_ ||| _) _) = true
  rw [Nat.testBit_or, h, Bool.true_or]
theorem or_W4 {a b : List Nat} (ha : Mk.W4 a) (hb : Mk.W4 b) : Mk.W4 (zw Nat.lor a b) := by
  refine ⟨zw_len ha.1 hb.1, fun i => ?_⟩
  rcases Nat.lt_or_ge i 4 with h | h
  · rw [zw_nth ha.1 hb.1 h]
    exact Nat.or_lt_two_pow (ha.2 i) (hb.2 i)
  · rw [Mk.nth_getElem?, List.getElem?_eq_none (by rw [zw_len ha.1 hb.1]; exact h)]
    exact Nat.two_pow_pos 64
theorem fr_mono {a b : List Nat} (h : ∀ c, Mk.hasB a c = true → Mk.hasB b c = true) : ∀ l : List Core, (fr a l).length ≤ (fr b l).length
  | [] => Nat.le_refl _
  | x :: l => by
    have ih := fr_mono h l
    unfold fr at *
    by_cases h1 : Mk.hasB a x.1 = true
    · rw [List.filter_cons_of_pos (by simpa using h1), List.filter_cons_of_pos (by simpa using h _ h1)]
      simp only [List.length_cons]
      omega
    · rw [List.filter_cons_of_neg (by simpa using h1)]
      refine Nat.le_trans ih ?_
      by_cases h2 : Mk.hasB b x.1 = true
      · rw [List.filter_cons_of_pos (by simpa using h2)]; simp
      · rw [List.filter_cons_of_neg (by simpa using h2)]; exact Nat.le_refl _
theorem ranks_fewer (F : List Nat) (of : Nat → Nat) (N r q i : Nat) (hi : i < r) : (ranks (wished F of N (r * q)) r q)[i]? = (ranks (wished F of N ((r + 1) * q)) (r + 1) q)[i]? := by
  rw [ranks_get _ _ _ _ hi, ranks_get _ _ _ _ (by omega)]
  congr 2
  unfold wished
  rw [List.map_take, List.map_take, List.drop_take, List.drop_take, List.take_take, List.take_take]
  have h1 : (i + 1) * q ≤ r * q := Nat.mul_le_mul_right q hi
  rw [Nat.add_mul, Nat.one_mul] at h1
  have h2 : (r + 1) * q = r * q + q := by rw [Nat.add_mul, Nat.one_mul]
  rw [Nat.min_eq_left (by omega), Nat.min_eq_left (by omega)]
end Go.Proofs.Yteggadafcedojaa
