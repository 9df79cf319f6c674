/- The document's dag: Over; the law on codes. -/
import Derived.Test.YtodgkjmkjahkiaaR5
namespace Go.Proofs.Ytodgkjmkjahkiaa
open Go.RowKit

theorem stl_range {l : List St} {cs : List Int} {i : Nat} (hi : i < (stlL l cs).length) : -1 ≤ (stlL l cs).getD i 0 ∧ (stlL l cs).getD i 0 ≤ 256 := by
  unfold stlL at hi ⊢
  split at hi
  · rename_i h
    rw [if_pos h]
    exact ck_range (settled_ck h) hi
  · cases hi
set_option maxRecDepth 100000 in
set_option maxHeartbeats 2000000 in
theorem rover_any (A C : Option Addr) (n cap m cc : Nat) (l : List St) (cs : List Int) (w : World) (h : Sl w A n cap l) (hC : Il w C m cs) :
    Calls Try.prog 27 #[.slice A n cap, .slice C m cc] w fun e w' => e = .returned (.tuple #[.int .i64 (ovN l cs), .bool (ovY l cs)]) ∧ Below w.heap.size w w' := by
  have K1 := Lib.hid (rsettle_any A C n cap m cc l cs w h hC)
  have hY := Lib.hid (show ovY l cs = ((ckB l cs == 0) && !hasB (settleB l cs) (-1)) from rfl)
  have hN := Lib.hid (show ovN l cs = if ovY l cs then (settleB l cs).foldl mxB 0 else 0 from rfl)
  have hF := Lib.hid (fun e : ckB l cs = 0 => (show stlL l cs = settleB l cs from by unfold stlL; rw [if_pos e]))
  have hlen := stl_len (l := l) (cs := cs)
  have hrg := Lib.hid (fun i (hi : i < (stlL l cs).length) => stl_range hi)
  clear h hC
  generalize ovY l cs = oy at *
  generalize ovN l cs = on at *
  generalize stlL l cs = F at *
  by_cases hk : ckB l cs = 0
  · have e := hF.out hk
    subst e
    rw [hk] at K1 hY
    generalize settleB l cs = F at *
    clear hk hF
    go_enter Try.func27, Try.ntmps27
    go_wp2_with (go_at_call 25; (with_reducible refine K1.out.mono ?_); rintro y w1 ⟨v, rfl, hrow, hb1⟩; obtain ⟨A1, cap1, rfl⟩ := own_form hrow; have hI := Lib.hid (ints_iv rfl hrow))
    go_loopg [8, 9] F.length (fun g s8 s9 wr => ∃ i : Nat, i + g = F.length ∧ s8 = .int .i64 ((F.take i).foldl mxB 0) ∧ s9 = .int .i64 i ∧ Hid (∀ j, j < i → F.getD j 0 ≠ -1) ∧ wr = w1)
    case atStart => exact ⟨0, by omega, rfl, rfl, Lib.hid (fun j hj => absurd hj (Nat.not_lt_zero _)), rfl⟩
    case round =>
      obtain ⟨i, hig, rfl, rfl, HJ, rfl⟩ := hrel
      cases gk with
      | zero =>
        have hlt : ¬ ((i : Int) < (F.length : Int)) := by omega
        have hb : Hid (hasB F (-1) = false) := Lib.hid (by
          rw [← Bool.not_eq_true, hasB_iff]
          intro hm
          obtain ⟨j, hj, e⟩ := List.getElem_of_mem hm
          exact HJ.out j (by omega) (by rw [List.getD_eq_getElem?_getD, List.getElem?_eq_getElem hj, e]; rfl))
        have e : oy = true := by rw [hY.out, hb.out]; rfl
        subst e
        have HE := Lib.hid (show on = (F.take i).foldl mxB 0 from by rw [hN.out, (show i = F.length from by omega), List.take_length]; rfl)
        go_wp2
        go_ret2
        exact ⟨by rw [HE.out]; rfl, hb1⟩
      | succ g =>
        have i0 : (0 : Int) ≤ (i : Int) := by omega
        have i1 : (i : Int) < (F.length : Int) := by omega
        obtain ⟨ad, rfl, h1, h2⟩ := hI.out.at_ (k := i) (by omega)
        have HS := Lib.hid (fold_snoc (F := F) (i := i) (by omega))
        have hr := hrg.out i (by omega)
        have HJ2 := Lib.hid (fun (e : F.getD i 0 ≠ -1) => (show ∀ j, j < i + 1 → F.getD j 0 ≠ -1 from fun j hj => by
          rcases Nat.lt_or_ge j i with h | h
          · exact HJ.out j h
          · obtain rfl : j = i := by omega
            exact e))
        have HM := Lib.hid (show F.getD i 0 = -1 → oy = false from fun e => by
          have hm : (-1 : Int) ∈ F := by
            rw [← e, List.getD_eq_getElem?_getD, List.getElem?_eq_getElem (by omega)]
            exact List.getElem_mem _
          rw [hY.out, hasB_iff.2 hm]; rfl)
        generalize (F.take i).foldl mxB 0 = mm at *
        generalize F.getD i 0 = c at *
        by_cases hc1 : c = -1
        · have e := HM.out hc1
          subst e
          subst hc1
          have HE := Lib.hid (show on = 0 from by rw [hN.out]; rfl)
          go_wp2
          go_ret2
          exact ⟨by rw [HE.out]; rfl, hb1⟩
        · have hc2 : (c == -1) = false := by simpa using hc1
          have HJ3 := Lib.hid (HJ2.out hc1)
          clear hc1
          by_cases hc : c ≤ 255
          · have HS2 := Lib.hid (show (F.take (i + 1)).foldl mxB 0 = if c > mm then c else mm from by rw [HS.out]; unfold mxB; rw [if_neg (by omega)])
            by_cases hgt : c > mm
            · have HS3 := Lib.hid (show (F.take (i + 1)).foldl mxB 0 = c from by rw [HS2.out, if_pos hgt])
              go_wp2
              go_roundg g
              case measure => omega
              case rel => exact ⟨i + 1, by omega, by rw [HS3.out], by go_num, HJ3, rfl⟩
            · have HS3 := Lib.hid (show (F.take (i + 1)).foldl mxB 0 = mm from by rw [HS2.out, if_neg hgt])
              go_wp2
              go_roundg g
              case measure => omega
              case rel => exact ⟨i + 1, by omega, by rw [HS3.out], by go_num, HJ3, rfl⟩
          · have HS3 := Lib.hid (show (F.take (i + 1)).foldl mxB 0 = mm from by rw [HS.out]; unfold mxB; rw [if_pos (by omega)])
            go_wp2
            go_roundg g
            case measure => omega
            case rel => exact ⟨i + 1, by omega, by rw [HS3.out], by go_num, HJ3, rfl⟩
  · have hc' : (ckB l cs == 0) = false := by simpa using hk
    have hc2 : (ckB l cs != 0) = true := by unfold bne; rw [hc']; rfl
    rw [hc'] at hY
    have e : oy = false := by rw [hY.out]; rfl
    subst e
    have HE := Lib.hid (show on = 0 from by rw [hN.out]; rfl)
    generalize ckB l cs = c at *
    clear hk hF
    go_enter Try.func27, Try.ntmps27
    go_wp2_with (go_at_call 25; (with_reducible refine K1.out.mono ?_); rintro y w1 ⟨v, rfl, hrow, hb1⟩; obtain ⟨A1, cap1, rfl⟩ := own_form hrow)
    go_ret2
    exact ⟨by rw [HE.out]; rfl, hb1⟩
theorem rdy_len {l : List St} {cs : List Int} : (rdyL l cs).length ≤ 16 := by
  unfold rdyL
  split
  · rename_i h
    have := ready_le (l := l) (cs := cs)
    have := may_len (check_ok (ck_ok h).1).1
    omega
  · exact Nat.zero_le _
set_option maxRecDepth 100000 in
set_option maxHeartbeats 8000000 in
theorem codes_law (A C : Option Addr) (n cap m cc : Nat) (l : List St) (cs : List Int) (w : World) (h : Sl w A n cap l) (hC : Il w C m cs) :
    Calls Try.prog 4 #[.slice A n cap, .slice C m cc] w fun e w' => e = .returned (.bool true) ∧ Below w.heap.size w w' := by
  have KL := Lib.hid live_any
  have K1 := Lib.hid (small_any A n cap l w h.sts h.len h.most)
  cases hs : smallB l
  · rw [hs] at K1
    go_enter Try.func4, Try.ntmps4
    go_wp2_with (first
      | (go_at_call 15; (with_reducible refine K1.out.mono ?_); rintro y w ⟨rfl, rfl⟩)
      | (go_at_call 16; (with_reducible refine (KL.out _).mono ?_); rintro y w1 ⟨rfl, hb1⟩))
    go_ret
    exact ⟨rfl, hb1⟩
  · rw [hs] at K1
    clear hs
    by_cases hm : m > 40
    · have hm' : (m : Int) > 40 := by omega
      go_enter Try.func4, Try.ntmps4
      go_wp2_with (first
        | (go_at_call 15; (with_reducible refine K1.out.mono ?_); rintro y w ⟨rfl, rfl⟩)
        | (go_at_call 16; (with_reducible refine (KL.out _).mono ?_); rintro y w1 ⟨rfl, hb1⟩))
      go_ret
      exact ⟨rfl, hb1⟩
    · have hm' : ¬ ((m : Int) > 40) := by omega
      have KR := Lib.hid (fun V (hb : Below w.heap.size w V) => ready_any A C n cap m cc l cs V (h.next hb) (hC.next hb))
      have KR2 := Lib.hid (fun V (hb : Below w.heap.size w V) => rready_any A C n cap m cc l cs V (h.next hb) (hC.next hb))
      have KS := Lib.hid (fun V (hb : Below w.heap.size w V) => settle_any A C n cap m cc l cs V (h.next hb) (hC.next hb))
      have KS2 := Lib.hid (fun V (hb : Below w.heap.size w V) => rsettle_any A C n cap m cc l cs V (h.next hb) (hC.next hb))
      have KO := Lib.hid (fun V (hb : Below w.heap.size w V) => over_any A C n cap m cc l cs V (h.next hb) (hC.next hb))
      have KO2 := Lib.hid (fun V (hb : Below w.heap.size w V) => rover_any A C n cap m cc l cs V (h.next hb) (hC.next hb))
      have q1 := rdy_len (l := l) (cs := cs)
      have q2 := stl_len (l := l) (cs := cs)
      have e1 : (ckB l cs == ckB l cs) = true := by simp
      have e2 : (ovN l cs == ovN l cs) = true := by simp
      have e3 : (ovY l cs == ovY l cs) = true := by simp
      generalize rdyL l cs = R at *
      generalize stlL l cs = F at *
      generalize ckB l cs = er at *
      generalize ovN l cs = on at *
      generalize ovY l cs = oy at *
      clear h hC
      go_enter Try.func4, Try.ntmps4
      go_wp2_with fail
      refine K1.out.mono ?_
      rintro y w ⟨rfl, rfl⟩
      go_wp2_with fail
      refine (KR.out _ (Below.refl _ _)).mono ?_
      rintro y w1 ⟨v1, rfl, row1, hb1⟩
      obtain ⟨A1, c1, rfl⟩ := own_form row1
      have I1 := Lib.hid (ints_iv rfl row1)
      have HB := Lib.hid hb1
      clear row1 hb1
      go_wp2_with fail
      refine (KR2.out _ HB.out).mono ?_
      rintro y w2 ⟨v2, rfl, row2, hb2⟩
      obtain ⟨A2, c2, rfl⟩ := own_form row2
      have I2 := Lib.hid (ints_iv rfl row2)
      replace I1 := Lib.hid (I1.out.next hb2)
      replace HB := Lib.hid (bmore HB.out hb2)
      clear row2 hb2
      go_wp2_with fail
      refine (KS.out _ HB.out).mono ?_
      rintro y w3 ⟨v3, rfl, row3, hb3⟩
      obtain ⟨A3, c3, rfl⟩ := own_form row3
      have I3 := Lib.hid (ints_iv rfl row3)
      replace I1 := Lib.hid (I1.out.next hb3)
      replace I2 := Lib.hid (I2.out.next hb3)
      replace HB := Lib.hid (bmore HB.out hb3)
      clear row3 hb3
      go_wp2_with fail
      refine (KS2.out _ HB.out).mono ?_
      rintro y w4 ⟨v4, rfl, row4, hb4⟩
      obtain ⟨A4, c4, rfl⟩ := own_form row4
      have I4 := Lib.hid (ints_iv rfl row4)
      replace I1 := Lib.hid (I1.out.next hb4)
      replace I2 := Lib.hid (I2.out.next hb4)
      replace I3 := Lib.hid (I3.out.next hb4)
      replace HB := Lib.hid (bmore HB.out hb4)
      clear row4 hb4
      go_wp2_with fail
      refine (KO.out _ HB.out).mono ?_
      rintro y w5 ⟨rfl, hb5⟩
      replace I1 := Lib.hid (I1.out.next hb5)
      replace I2 := Lib.hid (I2.out.next hb5)
      replace I3 := Lib.hid (I3.out.next hb5)
      replace I4 := Lib.hid (I4.out.next hb5)
      replace HB := Lib.hid (bmore HB.out hb5)
      clear hb5
      go_wp2_with fail
      refine (KO2.out _ HB.out).mono ?_
      rintro y w6 ⟨rfl, hb6⟩
      replace I1 := Lib.hid (I1.out.next hb6)
      replace I2 := Lib.hid (I2.out.next hb6)
      replace I3 := Lib.hid (I3.out.next hb6)
      replace I4 := Lib.hid (I4.out.next hb6)
      replace HB := Lib.hid (bmore HB.out hb6)
      clear hb6
      go_wp2_with fail
      refine (same_eq A1 A2 c1 c2 R.length R _ I1.out I2.out rfl (by unfold maxLen; omega)).mono ?_
      rintro y w7 ⟨rfl, hb7⟩
      replace I3 := Lib.hid (I3.out.next hb7)
      replace I4 := Lib.hid (I4.out.next hb7)
      replace HB := Lib.hid (bmore HB.out hb7)
      clear hb7 I1 I2
      go_wp2_with fail
      refine (same_eq A3 A4 c3 c4 F.length F _ I3.out I4.out rfl (by unfold maxLen; omega)).mono ?_
      rintro y w8 ⟨rfl, hb8⟩
      replace HB := Lib.hid (bmore HB.out hb8)
      clear hb8 I3 I4
      go_wp2_with fail
      refine (KL.out _).mono ?_
      rintro y w9 ⟨rfl, hb9⟩
      go_wp2_with fail
      go_ret
      exact ⟨by first | rfl | simp_all, bmore HB.out hb9⟩
end Go.Proofs.Ytodgkjmkjahkiaa
