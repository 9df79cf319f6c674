/- The law MaskBack. -/
import Derived.Test.YthmlibapjhmdbaaDoorTx3
import Derived.Test.YthmlibapjhmdbaaDoorL2
namespace Go.Proofs.YthmlibapjhmdbaaDoor
open Go.RowKit Go.Shelf

attribute [local go_sem] eq33 eq40

set_option maxRecDepth 100000 in
set_option maxHeartbeats 400000 in
theorem maskBack_long (x0 x1 x2 x3 : Nat) (s : ByteArray) (w : World) (G : Glob w) (hn : 200 < s.size) (KL : ∀ V : World, Glob V → Calls Tryd.prog 9 #[] V (fun e w' => e = .returned (.bool true) ∧ Below V.heap.size V w')) :
    Calls Tryd.prog 6 #[.agg #[.int .u64 x0, .int .u64 x1, .int .u64 x2, .int .u64 x3], .string s] w fun e w' => e = .returned (.bool true) ∧ Below w.heap.size w w' := by
  replace KL := Lib.hid KL
  have t0 : decide ((200 : Int) < (s.size : Int)) = true := by simp; omega
  have hb0 := (Below.refl _ w).alloc (Nat.le_refl _) (.cells #[.int .u64 x0, .int .u64 x1, .int .u64 x2, .int .u64 x3] 24)
  go_enter Tryd.func6, Tryd.ntmps6
  go_wp2_with fail
  refine (KL.out _ (G.next hb0)).mono ?_
  rintro e w1 ⟨rfl, hb⟩
  go_wp2_with fail
  go_ret
  exact ⟨rfl, bmore hb0 hb⟩

set_option maxRecDepth 100000 in
set_option maxHeartbeats 2000000 in
theorem maskBack_ok (x0 x1 x2 x3 c0 c1 c2 c3 n : Nat) (xs : List Nat) (T s : ByteArray) (w : World) (G : Glob w) (hs : s.size ≤ 200)
    (KT : ∀ V : World, Glob V → Calls Tryd.prog 32 #[.agg #[.int .u64 x0, .int .u64 x1, .int .u64 x2, .int .u64 x3]] V (fun e w' => e = .returned (.string T) ∧ Below V.heap.size V w'))
    (KP : ∀ V : World, Glob V → Calls Tryd.prog 30 #[.string T] V (fun e w' => e = .returned (.tuple #[.agg #[.int .u64 x0, .int .u64 x1, .int .u64 x2, .int .u64 x3], .int .i64 0]) ∧ Below V.heap.size V w'))
    (KLi : ∀ V : World, Glob V → Calls Tryd.prog 17 #[.agg #[.int .u64 x0, .int .u64 x1, .int .u64 x2, .int .u64 x3]] V (fun e w' => ∃ A ca, e = .returned (.slice A n ca) ∧ NatsAt w' w'.heap.size A xs ∧ Below V.heap.size V w'))
    (KOf : ∀ (V : World) A ca, NatsAt V V.heap.size A xs → Calls Tryd.prog 11 #[.slice A n ca] V (fun e w' => e = .returned (.tuple #[.agg #[.int .u64 x0, .int .u64 x1, .int .u64 x2, .int .u64 x3], .int .i64 0]) ∧ Below V.heap.size V w'))
    (KP2 : ∀ V : World, Glob V → Calls Tryd.prog 30 #[.string s] V (fun e w' => e = .returned (.tuple #[.agg #[.int .u64 c0, .int .u64 c1, .int .u64 c2, .int .u64 c3], .int .i64 0]) ∧ Below V.heap.size V w'))
    (KT2 : ∀ V : World, Glob V → Calls Tryd.prog 32 #[.agg #[.int .u64 c0, .int .u64 c1, .int .u64 c2, .int .u64 c3]] V (fun e w' => e = .returned (.string s) ∧ Below V.heap.size V w'))
    (KL : ∀ V : World, Glob V → Calls Tryd.prog 9 #[] V (fun e w' => e = .returned (.bool true) ∧ Below V.heap.size V w')) :
    Calls Tryd.prog 6 #[.agg #[.int .u64 x0, .int .u64 x1, .int .u64 x2, .int .u64 x3], .string s] w fun e w' => e = .returned (.bool true) ∧ Below w.heap.size w w' := by
  replace KL := Lib.hid KL; replace KT := Lib.hid KT; replace KP := Lib.hid KP; replace KLi := Lib.hid KLi; replace KOf := Lib.hid KOf; replace KP2 := Lib.hid KP2; replace KT2 := Lib.hid KT2
  have t0 : decide ((200 : Int) < (s.size : Int)) = false := by simp; omega
  have hb0 := (Below.refl _ w).alloc (Nat.le_refl _) (.cells #[.int .u64 x0, .int .u64 x1, .int .u64 x2, .int .u64 x3] 24)
  go_enter Tryd.func6, Tryd.ntmps6
  go_wp2_with fail
  refine (own_any _ _ _ _ _).mono ?_
  rintro e w1 ⟨rfl, hb⟩
  replace hb0 := bmore hb0 hb; clear hb
  have hx : Below w1.heap.size w1 (w1.alloc (.cells #[.int .u64 x0, .int .u64 x1, .int .u64 x2, .int .u64 x3] 27)) := (Below.refl _ _).alloc (Nat.le_refl _) _
  have j0 := Bk.new w1 27 #[.int .u64 x0, .int .u64 x1, .int .u64 x2, .int .u64 x3]
  replace hb0 := bmore hb0 hx; clear hx
  go_wp2_with fail
  refine (KT.out _ (G.next hb0)).mono ?_
  rintro e w2 ⟨rfl, hb⟩
  replace hb0 := bmore hb0 hb; replace j0 := j0.next hb; clear hb
  go_wp2_with fail
  refine (KP.out _ (G.next hb0)).mono ?_
  rintro e w3 ⟨rfl, hb⟩
  replace hb0 := bmore hb0 hb; replace j0 := j0.next hb; clear hb
  have hx : Below w3.heap.size w3 (w3.alloc (.cells #[.int .u64 x0, .int .u64 x1, .int .u64 x2, .int .u64 x3] 27)) := (Below.refl _ _).alloc (Nat.le_refl _) _
  have j1 := Bk.new w3 27 #[.int .u64 x0, .int .u64 x1, .int .u64 x2, .int .u64 x3]
  replace hb0 := bmore hb0 hx; replace j0 := j0.next hx; clear hx
  obtain ⟨r0, r1, r2, r3⟩ := j0.four
  go_wp2_with fail
  clear r0 r1 r2 r3
  refine (KLi.out _ (G.next hb0)).mono ?_
  rintro e w4 ⟨A, ca, rfl, hA, hb⟩
  replace hb0 := bmore hb0 hb; replace j0 := j0.next hb; replace j1 := j1.next hb; clear hb
  go_wp2_with fail
  refine (KOf.out _ A ca hA).mono ?_
  rintro e w5 ⟨rfl, hb⟩
  replace hb0 := bmore hb0 hb; replace j0 := j0.next hb; replace j1 := j1.next hb; clear hb hA
  have hx : Below w5.heap.size w5 (w5.alloc (.cells #[.int .u64 x0, .int .u64 x1, .int .u64 x2, .int .u64 x3] 27)) := (Below.refl _ _).alloc (Nat.le_refl _) _
  have j2 := Bk.new w5 27 #[.int .u64 x0, .int .u64 x1, .int .u64 x2, .int .u64 x3]
  replace hb0 := bmore hb0 hx; replace j0 := j0.next hx; replace j1 := j1.next hx; clear hx
  go_wp2_with fail
  refine (KP2.out _ (G.next hb0)).mono ?_
  rintro e w6 ⟨rfl, hb⟩
  replace hb0 := bmore hb0 hb; replace j0 := j0.next hb; replace j1 := j1.next hb; replace j2 := j2.next hb; clear hb
  have hx : Below w6.heap.size w6 (w6.alloc (.cells #[.int .u64 c0, .int .u64 c1, .int .u64 c2, .int .u64 c3] 27)) := (Below.refl _ _).alloc (Nat.le_refl _) _
  have j3 := Bk.new w6 27 #[.int .u64 c0, .int .u64 c1, .int .u64 c2, .int .u64 c3]
  replace hb0 := bmore hb0 hx; replace j0 := j0.next hx; replace j1 := j1.next hx; replace j2 := j2.next hx; clear hx
  obtain ⟨a0, a1, a2, a3⟩ := j0.four
  obtain ⟨b0, b1, b2, b3⟩ := j1.four
  obtain ⟨d0, d1, d2, d3⟩ := j2.four
  obtain ⟨q0, q1, q2, q3⟩ := j3.four
  go_wp2_with fail
  clear a0 a1 a2 a3 b0 b1 b2 b3 d0 d1 d2 d3 q0 q1 q2 q3
  refine (KT2.out _ (G.next hb0)).mono ?_
  rintro e w7 ⟨rfl, hb⟩
  replace hb0 := bmore hb0 hb; clear hb
  go_wp2_with fail
  refine (KL.out _ (G.next hb0)).mono ?_
  rintro e w8 ⟨rfl, hb⟩
  replace hb0 := bmore hb0 hb; clear hb
  go_wp2_with fail
  go_ret
  exact ⟨rfl, hb0⟩

set_option maxRecDepth 100000 in
set_option maxHeartbeats 2000000 in
theorem maskBack_bad (x0 x1 x2 x3 n : Nat) (xs : List Nat) (T s : ByteArray) (w : World) (G : Glob w) (hs : s.size ≤ 200)
    (KT : ∀ V : World, Glob V → Calls Tryd.prog 32 #[.agg #[.int .u64 x0, .int .u64 x1, .int .u64 x2, .int .u64 x3]] V (fun e w' => e = .returned (.string T) ∧ Below V.heap.size V w'))
    (KP : ∀ V : World, Glob V → Calls Tryd.prog 30 #[.string T] V (fun e w' => e = .returned (.tuple #[.agg #[.int .u64 x0, .int .u64 x1, .int .u64 x2, .int .u64 x3], .int .i64 0]) ∧ Below V.heap.size V w'))
    (KLi : ∀ V : World, Glob V → Calls Tryd.prog 17 #[.agg #[.int .u64 x0, .int .u64 x1, .int .u64 x2, .int .u64 x3]] V (fun e w' => ∃ A ca, e = .returned (.slice A n ca) ∧ NatsAt w' w'.heap.size A xs ∧ Below V.heap.size V w'))
    (KOf : ∀ (V : World) A ca, NatsAt V V.heap.size A xs → Calls Tryd.prog 11 #[.slice A n ca] V (fun e w' => e = .returned (.tuple #[.agg #[.int .u64 x0, .int .u64 x1, .int .u64 x2, .int .u64 x3], .int .i64 0]) ∧ Below V.heap.size V w'))
    (KP2 : ∀ V : World, Glob V → Calls Tryd.prog 30 #[.string s] V (fun e w' => e = .returned (.tuple #[.agg #[.int .u64 0, .int .u64 0, .int .u64 0, .int .u64 0], .int .i64 5]) ∧ Below V.heap.size V w'))
    (KL : ∀ V : World, Glob V → Calls Tryd.prog 9 #[] V (fun e w' => e = .returned (.bool true) ∧ Below V.heap.size V w')) :
    Calls Tryd.prog 6 #[.agg #[.int .u64 x0, .int .u64 x1, .int .u64 x2, .int .u64 x3], .string s] w fun e w' => e = .returned (.bool true) ∧ Below w.heap.size w w' := by
  replace KL := Lib.hid KL; replace KT := Lib.hid KT; replace KP := Lib.hid KP; replace KLi := Lib.hid KLi; replace KOf := Lib.hid KOf; replace KP2 := Lib.hid KP2
  have t0 : decide ((200 : Int) < (s.size : Int)) = false := by simp; omega
  have hb0 := (Below.refl _ w).alloc (Nat.le_refl _) (.cells #[.int .u64 x0, .int .u64 x1, .int .u64 x2, .int .u64 x3] 24)
  go_enter Tryd.func6, Tryd.ntmps6
  go_wp2_with fail
  refine (own_any _ _ _ _ _).mono ?_
  rintro e w1 ⟨rfl, hb⟩
  replace hb0 := bmore hb0 hb; clear hb
  have hx : Below w1.heap.size w1 (w1.alloc (.cells #[.int .u64 x0, .int .u64 x1, .int .u64 x2, .int .u64 x3] 27)) := (Below.refl _ _).alloc (Nat.le_refl _) _
  have j0 := Bk.new w1 27 #[.int .u64 x0, .int .u64 x1, .int .u64 x2, .int .u64 x3]
  replace hb0 := bmore hb0 hx; clear hx
  go_wp2_with fail
  refine (KT.out _ (G.next hb0)).mono ?_
  rintro e w2 ⟨rfl, hb⟩
  replace hb0 := bmore hb0 hb; replace j0 := j0.next hb; clear hb
  go_wp2_with fail
  refine (KP.out _ (G.next hb0)).mono ?_
  rintro e w3 ⟨rfl, hb⟩
  replace hb0 := bmore hb0 hb; replace j0 := j0.next hb; clear hb
  have hx : Below w3.heap.size w3 (w3.alloc (.cells #[.int .u64 x0, .int .u64 x1, .int .u64 x2, .int .u64 x3] 27)) := (Below.refl _ _).alloc (Nat.le_refl _) _
  have j1 := Bk.new w3 27 #[.int .u64 x0, .int .u64 x1, .int .u64 x2, .int .u64 x3]
  replace hb0 := bmore hb0 hx; replace j0 := j0.next hx; clear hx
  obtain ⟨r0, r1, r2, r3⟩ := j0.four
  go_wp2_with fail
  clear r0 r1 r2 r3
  refine (KLi.out _ (G.next hb0)).mono ?_
  rintro e w4 ⟨A, ca, rfl, hA, hb⟩
  replace hb0 := bmore hb0 hb; replace j0 := j0.next hb; replace j1 := j1.next hb; clear hb
  go_wp2_with fail
  refine (KOf.out _ A ca hA).mono ?_
  rintro e w5 ⟨rfl, hb⟩
  replace hb0 := bmore hb0 hb; replace j0 := j0.next hb; replace j1 := j1.next hb; clear hb hA
  have hx : Below w5.heap.size w5 (w5.alloc (.cells #[.int .u64 x0, .int .u64 x1, .int .u64 x2, .int .u64 x3] 27)) := (Below.refl _ _).alloc (Nat.le_refl _) _
  have j2 := Bk.new w5 27 #[.int .u64 x0, .int .u64 x1, .int .u64 x2, .int .u64 x3]
  replace hb0 := bmore hb0 hx; replace j0 := j0.next hx; replace j1 := j1.next hx; clear hx
  go_wp2_with fail
  refine (KP2.out _ (G.next hb0)).mono ?_
  rintro e w6 ⟨rfl, hb⟩
  replace hb0 := bmore hb0 hb; replace j0 := j0.next hb; replace j1 := j1.next hb; replace j2 := j2.next hb; clear hb
  have hx : Below w6.heap.size w6 (w6.alloc (.cells #[.int .u64 0, .int .u64 0, .int .u64 0, .int .u64 0] 27)) := (Below.refl _ _).alloc (Nat.le_refl _) _
  have j3 := Bk.new w6 27 #[.int .u64 0, .int .u64 0, .int .u64 0, .int .u64 0]
  replace hb0 := bmore hb0 hx; replace j0 := j0.next hx; replace j1 := j1.next hx; replace j2 := j2.next hx; clear hx
  obtain ⟨a0, a1, a2, a3⟩ := j0.four
  obtain ⟨b0, b1, b2, b3⟩ := j1.four
  obtain ⟨d0, d1, d2, d3⟩ := j2.four
  obtain ⟨q0, q1, q2, q3⟩ := j3.four
  go_wp2_with fail
  refine (KL.out _ (G.next hb0)).mono ?_
  rintro e w8 ⟨rfl, hb⟩
  replace hb0 := bmore hb0 hb; clear hb
  go_wp2_with fail
  go_ret
  exact ⟨rfl, hb0⟩

theorem text_size {m : List Nat} (hm : Mk.W4 m) : (textOf m (S m)).size ≤ 2048 := by
  have h1 := textOf_size hm.1 (S m) (S_lt m)
  have h2 : (S m).length ≤ 256 := by rw [S_cnt]; exact cnt_le _
  omega
theorem text_S (a b c e : Nat) (w : World) (hm : Mk.W4 [a, b, c, e]) (G : Glob w) :
    Calls Tryd.prog 32 #[.agg #[.int .u64 a, .int .u64 b, .int .u64 c, .int .u64 e]] w fun x w' => x = .returned (.string (textOf [a, b, c, e] (S [a, b, c, e]))) ∧ Below w.heap.size w w' := by
  have := text_any a b c e w hm G
  rw [nums_lc] at this
  exact this
theorem maskBack_any (x0 x1 x2 x3 : Nat) (s : ByteArray) (w : World) (G : Glob w) (hx : Mk.W4 [x0, x1, x2, x3]) :
    Calls Tryd.prog 6 #[.agg #[.int .u64 x0, .int .u64 x1, .int .u64 x2, .int .u64 x3], .string s] w fun e w' => e = .returned (.bool true) ∧ Below w.heap.size w w' := by
  by_cases hs : s.size ≤ 200
  · have hP : ∀ V : World, Glob V → Calls Tryd.prog 30 #[.string (textOf [x0, x1, x2, x3] (S [x0, x1, x2, x3]))] V (fun e w' => e = .returned (.tuple #[.agg #[.int .u64 x0, .int .u64 x1, .int .u64 x2, .int .u64 x3], .int .i64 0]) ∧ Below V.heap.size V w') := by
      intro V G
      have := parse_any (textOf [x0, x1, x2, x3] (S [x0, x1, x2, x3])) V G (text_size hx)
      rw [parse_text hx] at this
      exact this
    have hO : ∀ (V : World) A ca, NatsAt V V.heap.size A (S [x0, x1, x2, x3]) → Calls Tryd.prog 11 #[.slice A (S [x0, x1, x2, x3]).length ca] V (fun e w' => e = .returned (.tuple #[.agg #[.int .u64 x0, .int .u64 x1, .int .u64 x2, .int .u64 x3], .int .i64 0]) ∧ Below V.heap.size V w') := by
      intro V A ca hA
      have h2 : (S [x0, x1, x2, x3]).length ≤ 256 := by rw [S_cnt]; exact cnt_le _
      have := of_ok A ca (S [x0, x1, x2, x3]) V hA (S_lt _) (S_nodup _) (by unfold maxLen; omega)
      rw [ofL_S hx] at this
      exact this
    have hP2 := fun V G => parse_any s V G (by omega)
    rcases parse_or s with ⟨c, hc, hW⟩ | hc
    · obtain ⟨c0, c1, c2, c3, rfl⟩ := hW.four
      have hT := text_parse hc
      rw [hc] at hP2
      refine maskBack_ok x0 x1 x2 x3 c0 c1 c2 c3 _ _ _ s w G hs (fun V G => text_S x0 x1 x2 x3 V hx G) hP (fun V G => list_nats x0 x1 x2 x3 V hx G) hO hP2 (fun V G => ?_) (fun V G => live_any V G)
      have := text_S c0 c1 c2 c3 V hW G
      rw [hT] at this
      exact this
    · rw [hc] at hP2
      exact maskBack_bad x0 x1 x2 x3 _ _ _ s w G hs (fun V G => text_S x0 x1 x2 x3 V hx G) hP (fun V G => list_nats x0 x1 x2 x3 V hx G) hO hP2 (fun V G => live_any V G)
  · exact maskBack_long x0 x1 x2 x3 s w G (by omega) (fun V G => live_any V G)
end Go.Proofs.YthmlibapjhmdbaaDoor
