/- A place counts from the front, over and over. -/
import Derived.Test.YtlhfijjjfolldaaB1
namespace Go.Proofs.Ytlhfijjjfolldaa
open Go.RowKit Go.Maps

theorem NtAt.row_ne {w : World} {p r g : Nat} {m m' k k' : Int} {v v' : Value} {l l' : List Str} (h : NtAt w p m v l k) (h' : NtAt w r m' v' l' k') (e : v.ownBlock = some g) : g ≠ r := by
  obtain ⟨_, cs, hk⟩ := row_bk h.row e
  exact bk_ne hk h'.blk (by decide)
/-- Two nets. -/
structure Tw (w : World) (p r : Nat) (ma mb : Int) (va vb : Value) (la lb : List Str) (ka kb : Int) : Prop where
  a : NtAt w p ma va la ka
  b : NtAt w r mb vb lb kb
  ne : p ≠ r
  ap : ∀ g, va.ownBlock = some g → vb.ownBlock ≠ some g
section
variable {w w' : World} {p r : Nat} {ma mb ka kb ka' kb' : Int} {va vb va' vb' : Value} {la lb la' lb' : List Str}
theorem Tw.next (h : Tw w p r ma mb va vb la lb ka kb) (hb : Below w.heap.size w w') : Tw w' p r ma mb va vb la lb ka kb := ⟨h.a.next hb, h.b.next hb, h.ne, h.ap⟩
theorem Tw.left (h : Tw w p r ma mb va vb la lb ka kb) (n : NtAt w' p ma va' la' ka') (t : Tn w w' p va va') : Tw w' p r ma mb va' vb la' lb ka' kb := by
  refine ⟨n, h.b.td t.td ?_ fun g e => ?_, h.ne, fun g e e2 => ?_⟩
  · rintro (e | e)
    · exact h.ne e.symm
    · exact h.a.row_ne h.b e rfl
  · rintro (e2 | e2)
    · exact h.b.row_ne h.a e e2
    · exact h.ap g e2 e
  · rcases t.nw g e with q | q
    · exact h.ap g q e2
    · have := (h.b.row.lt g e2).2
      omega
theorem Tw.right (h : Tw w p r ma mb va vb la lb ka kb) (n : NtAt w' r mb vb' lb' kb') (t : Tn w w' r vb vb') : Tw w' p r ma mb va vb' la lb' ka kb' := by
  refine ⟨h.a.td t.td ?_ fun g e => ?_, n, h.ne, fun g e e2 => ?_⟩
  · rintro (e | e)
    · exact h.ne e
    · exact h.b.row_ne h.a e rfl
  · rintro (e2 | e2)
    · exact h.a.row_ne h.b e e2
    · exact h.ap g e e2
  · rcases t.nw g e2 with q | q
    · exact h.ap g e q
    · have := (h.a.row.lt g e).2
      omega
end
theorem plc_turn (l : List Str) (i : Int) : plc l (i - 3 * (l.length : Int)) = plc l i := by
  unfold plc
  congr 1
  rw [Int.sub_emod, Int.mul_emod_left, Int.sub_zero, Int.emod_emod]
set_option maxRecDepth 100000 in
set_option maxHeartbeats 4000000 in
theorem turns_law (HT : TwiceC) (A : Option Addr) (n cap : Nat) (zs : List Str) (i : Int) (w : World) (h : Tl w A n cap zs) : Calls Try.prog 7 #[.slice A n cap, .int .i64 i] w fun e w' => e = .returned (.bool true) ∧ Below w.heap.size w w' := by
  have KL := Lib.hid (live_any HT)
  have H := Lib.hid h
  have hnm := h.most
  unfold maxLen at hnm
  clear HT h
  by_cases c0 : (n : Int) < 1
  · have t0 : decide ((n : Int) < 1) = true := decide_eq_true c0
    go_enter Try.func7, Try.ntmps7
    go_wp2_with fail
    refine (KL.out _).mono ?_
    rintro _ w3 ⟨rfl, b3⟩
    go_wp2_with fail
    go_ret
    exact ⟨rfl, b3⟩
  have t0 : decide ((n : Int) < 1) = false := decide_eq_false c0
  by_cases c1 : (50 : Int) < (n : Int)
  · have t1 : decide ((50 : Int) < (n : Int)) = true := decide_eq_true c1
    go_enter Try.func7, Try.ntmps7
    go_wp2_with fail
    refine (KL.out _).mono ?_
    rintro _ w3 ⟨rfl, b3⟩
    go_wp2_with fail
    go_ret
    exact ⟨rfl, b3⟩
  have t1 : decide ((50 : Int) < (n : Int)) = false := decide_eq_false c1
  by_cases c2 : i < -1099511627776
  · have t2 : decide (i < -1099511627776) = true := decide_eq_true c2
    go_enter Try.func7, Try.ntmps7
    go_wp2_with fail
    refine (KL.out _).mono ?_
    rintro _ w3 ⟨rfl, b3⟩
    go_wp2_with fail
    go_ret
    exact ⟨rfl, b3⟩
  have t2 : decide (i < -1099511627776) = false := decide_eq_false c2
  by_cases c3 : 1099511627776 < i
  · have t3 : decide (1099511627776 < i) = true := decide_eq_true c3
    go_enter Try.func7, Try.ntmps7
    go_wp2_with fail
    refine (KL.out _).mono ?_
    rintro _ w3 ⟨rfl, b3⟩
    go_wp2_with fail
    go_ret
    exact ⟨rfl, b3⟩
  have t3 : decide (1099511627776 < i) = false := decide_eq_false c3
  have hn1 : 1 ≤ n := by omega
  have hn2 : n ≤ 50 := by omega
  go_enter Try.func7, Try.ntmps7
  go_wp2_with fail
  refine (new_ok 50 _ (by omega) (by omega)).mono ?_
  rintro _ w1 ⟨rfl, n1, b1⟩
  obtain ⟨p, hp⟩ : ∃ p, p = w.heap.size := ⟨_, rfl⟩
  rw [← hp] at n1
  have HP : Hid (w.heap.size ≤ p) := Lib.hid (by omega)
  rw [← hp]
  have B1 := Lib.hid b1
  have N1 := Lib.hid n1
  clear n1 b1 hp t0 t1 t2 t3
  go_wp2_with fail
  refine (new_ok 50 _ (by omega) (by omega)).mono ?_
  rintro _ w2 ⟨rfl, n2, b2⟩
  obtain ⟨r, hr⟩ : ∃ r, r = w1.heap.size := ⟨_, rfl⟩
  rw [← hr] at n2
  have HR : Hid (w.heap.size ≤ r) := Lib.hid (by have := B1.out.size; omega)
  rw [← hr]
  have T2 : Hid (Tw w2 p r 50 50 (.slice none 0 0) (.slice none 0 0) [] [] 0 0) := Lib.hid ⟨N1.out.next b2, n2, by have := N1.out.blk.lt; omega, fun g e => by cases e⟩
  have B2 := Lib.hid (bmore B1.out b2)
  have H2 := Lib.hid (H.out.next B2.out)
  clear n2 b2 hr N1 B1
  have hld : ldN [] 50 zs = n := by
    rw [ldN, H.out.len]
    show min n (50 - 0) = n
    omega
  have htk : zs.take n = zs := List.take_of_length_le (by rw [H.out.len]; omega)
  go_wp2_with fail
  refine (send_any T2.out.a A n cap zs H2.out.at_ H2.out.len (by omega) H2.out.le H2.out.no (by omega) (by omega)).mono ?_
  rw [hld, htk]
  rintro _ w3 ⟨rfl, v3, n3, t3⟩
  have T3 : Hid (Tw w3 p r 50 50 v3 (.slice none 0 0) zs [] _ 0) := Lib.hid (T2.out.left n3 t3)
  have B3 := Lib.hid (B2.out.trans (t3.below T2.out.a HP.out))
  have H3 := Lib.hid (H.out.next B3.out)
  clear n3 t3
  go_wp2_with fail
  refine (send_any T3.out.b A n cap zs H3.out.at_ H3.out.len (by omega) H3.out.le H3.out.no (by omega) (by omega)).mono ?_
  rw [hld, htk]
  rintro _ w4 ⟨rfl, v4, n4, t4⟩
  have T4 : Hid (Tw w4 p r 50 50 v3 v4 zs zs _ _) := Lib.hid (T3.out.right n4 t4)
  have B4 := Lib.hid (B3.out.trans (t4.below T3.out.b HR.out))
  clear n4 t4 hld htk
  have HE : Hid (zs.isEmpty = false) := by
    show _ = _
    cases hz : zs with
    | nil =>
      have := H.out.len
      rw [hz] at this
      simp at this
      omega
    | cons => rfl
  have HPL := Lib.hid (plc_turn zs i)
  rw [H.out.len] at HPL
  go_wp2_with fail
  refine (take_any T4.out.a i).mono ?_
  rintro _ w5 ⟨rfl, v5, n5, t5⟩
  have T5 := Lib.hid (T4.out.left n5 t5)
  have B5 := Lib.hid (B4.out.trans (t5.below T4.out.a HP.out))
  rw [HE.out]
  clear n5 t5
  go_wp2_with fail
  refine (take_any T5.out.b (i - 3 * (n : Int))).mono ?_
  rintro _ w6 ⟨rfl, v6, n6, t6⟩
  have T6 := Lib.hid (T5.out.right n6 t6)
  have B6 := Lib.hid (B5.out.trans (t6.below T5.out.b HR.out))
  rw [HE.out]
  clear n6 t6
  have eS : tkS zs (i - 3 * (n : Int)) = tkS zs i := by unfold tkS; rw [HPL.out]
  have eL : tkL zs (i - 3 * (n : Int)) = tkL zs i := by unfold tkL; rw [HPL.out]
  rw [eS]
  rw [eL] at T6
  clear eS eL
  have t9 := str_eq (tkS zs i)
  generalize tkS zs i = s at *
  generalize tkL zs i = L at *
  go_wp2_with fail
  refine (list_any T6.out.a).mono ?_
  rintro _ w7 ⟨A7, c7, rfl, s7, g7, b7⟩
  have T7 := Lib.hid (T6.out.next b7)
  have S7 := Lib.hid s7
  have B7 := Lib.hid (B6.out.trans (b7.mono B6.out.size))
  clear s7 g7 b7
  go_wp2_with fail
  refine (list_any T7.out.b).mono ?_
  rintro _ w8 ⟨A8, c8, rfl, s8, g8, b8⟩
  have S8 := Lib.hid (S7.out.next b8)
  have S9 := Lib.hid s8
  have B8 := Lib.hid (B7.out.trans (b8.mono B7.out.size))
  have hL := T7.out.b.len
  clear s8 g8 b8
  go_wp2_with fail
  refine (same_any A7 A8 L.length L.length c7 c8 L L _ S8.out S9.out rfl rfl (by omega) (by omega)).mono ?_
  rintro _ w9 ⟨rfl, b9⟩
  have B9 := Lib.hid (B8.out.trans (b9.mono B8.out.size))
  rw [show decide (L = L) = true from decide_eq_true rfl]
  clear b9
  go_wp2_with fail
  refine (KL.out _).mono ?_
  rintro _ w10 ⟨rfl, b10⟩
  go_wp2_with fail
  go_ret
  exact ⟨rfl, B9.out.trans (b10.mono B9.out.size)⟩
end Go.Proofs.Ytlhfijjjfolldaa
