/- The document's examples. -/
import Derived.Test.YtlhfijjjfolldaaA7
namespace Go.Proofs.Ytlhfijjjfolldaa
open Go.RowKit Go.Maps

abbrev sa : Str := ⟨#[97]⟩
abbrev sb : Str := ⟨#[98]⟩
abbrev sc : Str := ⟨#[99]⟩
abbrev sd : Str := ⟨#[100]⟩
theorem lit2 (w : World) (a b : Str) : StrsAt (w.alloc (.cells #[.string a, .string b] 9)) (some ⟨w.heap.size, 0, none⟩) [a, b] := by
  have k := Bk.new w 9 #[.string a, .string b]
  refine .inr ⟨_, rfl, k.lt, fun j u hj => ?_⟩
  rw [add_at]
  match j, hj with
  | 0, hj => cases hj; exact k.cell 0 _ rfl
  | 1, hj => cases hj; exact k.cell 1 _ rfl
set_option maxRecDepth 100000 in
set_option maxHeartbeats 4000000 in
theorem live_any (HT : TwiceC) (w : World) : Calls Try.prog 9 #[] w fun e w' => e = .returned (.bool true) ∧ Below w.heap.size w w' := by
  go_enter Try.func9, Try.ntmps9
  go_wp2_with fail
  refine (new_ok 3 w (by omega) (by omega)).mono ?_
  rintro _ w1 ⟨rfl, n1, b1⟩
  obtain ⟨p, hp⟩ : ∃ p, p = w.heap.size := ⟨_, rfl⟩
  rw [← hp] at n1
  have B1 := Lib.hid b1
  have HP : Hid (w.heap.size ≤ p) := Lib.hid (by omega)
  rw [← hp]
  have N1 := Lib.hid n1
  clear n1 b1 hp
  go_wp2_with fail
  have l2 := below_alloc w1 (.cells #[.string sa, .string sb] 9)
  have N2 := Lib.hid (N1.out.next l2)
  have B2 := Lib.hid (B1.out.trans (l2.mono B1.out.size))
  refine (send_any N2.out (some ⟨w1.heap.size, 0, none⟩) 2 2 [sa, sb] (lit2 w1 sa sb) rfl (by omega) (by omega) (fun h => by cases h) (by omega) (by omega)).mono ?_
  rintro _ w3 ⟨rfl, v3, n3, t3⟩
  have N3 : Hid (NtAt w3 p 3 v3 [sa, sb] 0) := Lib.hid n3
  have B3 := Lib.hid (B2.out.trans (t3.below N2.out HP.out))
  rw [show ((ldN [] 3 [sa, sb] : Nat) : Int) = 2 from rfl]
  clear n3 t3 l2
  go_wp2_with fail
  refine (take_any N3.out 3).mono ?_
  rintro _ w4 ⟨rfl, v4, n4, t4⟩
  have N4 : Hid (NtAt w4 p 3 v4 [sa] 0) := Lib.hid n4
  have B4 := Lib.hid (B3.out.trans (t4.below N3.out HP.out))
  rw [show tkS [sa, sb] 3 = sb from rfl, show (!([sa, sb] : List Str).isEmpty) = true from rfl]
  clear n4 t4
  go_wp2_with fail
  refine (HT N4.out 0).mono ?_
  rintro _ w5 ⟨rfl, v5, n5, t5⟩
  have N5 : Hid (NtAt w5 p 3 v5 [sa, sa] 0) := Lib.hid n5
  have B5 := Lib.hid (B4.out.trans (t5.below N4.out HP.out))
  rw [show twB [sa] 3 = true from rfl]
  clear n5 t5
  go_wp2_with fail
  have l6 := below_alloc w5 (.cells #[.string sc, .string sd] 9)
  have N6 := Lib.hid (N5.out.next l6)
  have B6 := Lib.hid (B5.out.trans (l6.mono B5.out.size))
  refine (send_any N6.out (some ⟨w5.heap.size, 0, none⟩) 2 2 [sc, sd] (lit2 w5 sc sd) rfl (by omega) (by omega) (fun h => by cases h) (by omega) (by omega)).mono ?_
  rintro _ w7 ⟨rfl, v7, n7, t7⟩
  have N7 : Hid (NtAt w7 p 3 v7 [sa, sa, sc] 1) := Lib.hid n7
  have B7 := Lib.hid (B6.out.trans (t7.below N6.out HP.out))
  rw [show ((ldN [sa, sa] 3 [sc, sd] : Nat) : Int) = 1 from rfl]
  clear n7 t7 l6
  go_wp2_with fail
  refine (drop_any N7.out (-1) (by omega) (by omega)).mono ?_
  rintro _ w8 ⟨rfl, v8, n8, t8⟩
  have N8 : Hid (NtAt w8 p 3 v8 [sa, sa] 2) := Lib.hid n8
  have B8 := Lib.hid (B7.out.trans (t8.below N7.out HP.out))
  rw [show (!([sa, sa, sc] : List Str).isEmpty) = true from rfl]
  clear n8 t8
  have hbb := str_eq sb
  go_wp2_with fail
  refine (list_any N8.out).mono ?_
  rintro _ w9 ⟨A9, c9, rfl, s9, g9, b9⟩
  have l10 := below_alloc w9 (.cells #[.string sa, .string sa] 9)
  have S10 := Lib.hid (s9.next l10)
  have N10 := Lib.hid ((N8.out.next b9).next l10)
  have B10 := Lib.hid ((B8.out.trans (b9.mono B8.out.size)).trans (l10.mono (Nat.le_trans B8.out.size b9.size)))
  clear s9 g9 b9
  go_wp2_with fail
  refine (same_any A9 (some ⟨w9.heap.size, 0, none⟩) 2 2 c9 2 [sa, sa] [sa, sa] _ S10.out (lit2 w9 sa sa) rfl rfl (by omega) (by omega)).mono ?_
  rintro _ w11 ⟨rfl, b11⟩
  have N11 := Lib.hid (N10.out.next b11)
  have B11 := Lib.hid (B10.out.trans (b11.mono B10.out.size))
  rw [show decide (([sa, sa] : List Str) = [sa, sa]) = true from decide_eq_true rfl]
  clear b11 l10
  go_wp2_with fail
  refine (lost_any N11.out).mono ?_
  rintro _ w12 ⟨rfl, rfl⟩
  go_wp2_with fail
  refine (new_no 0 _ (by omega)).mono ?_
  rintro _ w13 ⟨rfl, rfl⟩
  go_wp2_with fail
  go_ret
  exact ⟨rfl, B11.out⟩
end Go.Proofs.Ytlhfijjjfolldaa
