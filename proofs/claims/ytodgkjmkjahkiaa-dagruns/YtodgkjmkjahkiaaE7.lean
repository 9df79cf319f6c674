/- The law on runs. -/
import Derived.Test.YtodgkjmkjahkiaaE6
namespace Go.Proofs.Ytodgkjmkjahkiaa
open Go.RowKit

theorem rep_snoc (i : Nat) : iv (List.replicate (i + 1) (-1)) = iv (List.replicate i (-1)) ++ [Value.int .i64 (-1)] := by rw [List.replicate_succ', iv_snoc]
theorem own_some {w : World} {base n cap : Nat} {A : Option Addr} {xs : List Value} (h : w.ownsRow base 3 1 (.slice A n cap) n xs) (hn : 0 < n) : ∃ g, A = some ⟨g, 0, none⟩ ∧ base ≤ g ∧ g < w.heap.size := by
  rcases h.2 with ⟨h0, _⟩ | ⟨g, c, cu, h1, h2, h3, _⟩
  · cases h0; omega
  · cases h1; exact ⟨g, rfl, h2, (Array.getElem?_eq_some_iff.1 h3).1⟩
set_option maxRecDepth 100000 in
set_option maxHeartbeats 8000000 in
theorem runs_law (A C : Option Addr) (n cap m cc : Nat) (l : List St) (es : List Int) (w : World) (h : Sl w A n cap l) (hC : Il w C m es) :
    Calls Try.prog 6 #[.slice A n cap, .slice C m cc] w fun e w' => e = .returned (.bool true) ∧ Below w.heap.size w w' := by
  have KL := Lib.hid live_any
  have K1 := Lib.hid (small_any A n cap l w h.sts h.len h.most)
  have K2 := Lib.hid (check_any A n cap l w h)
  have hmm := hC.most
  unfold maxLen at hmm
  generalize hb : smallB l = b at *
  cases b
  · clear hb
    go_enter Try.func6, Try.ntmps6
    go_wp2_with (first
      | (go_at_call 15; (with_reducible refine K1.out.mono ?_); rintro y w ⟨rfl, rfl⟩)
      | (go_at_call 16; (with_reducible refine (KL.out _).mono ?_); rintro y w1 ⟨rfl, hb1⟩))
    go_ret
    exact ⟨rfl, hb1⟩
  · by_cases hmn : m < n
    · have hmn' : (m : Int) < (n : Int) := by omega
      clear hb
      go_enter Try.func6, Try.ntmps6
      go_wp2_with (first
        | (go_at_call 15; (with_reducible refine K1.out.mono ?_); rintro y w ⟨rfl, rfl⟩)
        | (go_at_call 16; (with_reducible refine (KL.out _).mono ?_); rintro y w1 ⟨rfl, hb1⟩))
      go_ret
      exact ⟨rfl, hb1⟩
    · have hmn' : ¬ ((m : Int) < (n : Int)) := by omega
      by_cases hc : checkB l = 0
      · have h16 := (may_len (check_ok hc).1).2
        rw [h.len] at h16
        rw [hc] at K2
        have HC0 := Lib.hid hc
        have H := Lib.hid h
        have HC := Lib.hid hC
        clear hb hc h hC
        obtain ⟨ti, hi, hz0, hz1, hz2⟩ := info_parts info3
        go_enter Try.func6, Try.ntmps6
        go_wp2_with (first
          | (go_at_call 15; (with_reducible refine K1.out.mono ?_); rintro y w ⟨rfl, rfl⟩)
          | (go_at_call 17; (with_reducible refine K2.out.mono ?_); rintro y w1 ⟨rfl, hb1⟩))
        go_loopg [5, 6] n (fun g s5 s6 wr => ∃ i : Nat, i + g = n ∧ s6 = .int .i64 i ∧ wr.ownsRow w.heap.size 3 1 s5 i (iv (List.replicate i (-1))) ∧ Hid (∀ j, j < i → 0 ≤ es.getD j 0 ∧ es.getD j 0 ≤ 255) ∧ Below w.heap.size w wr)
        case atStart => exact ⟨0, by omega, rfl, World.ownsRow_nil _ _ _ _, Lib.hid (fun j hj => absurd hj (Nat.not_lt_zero _)), hb1⟩
        case round =>
          obtain ⟨i, hig, rfl, hrow, HE, hb2⟩ := hrel
          obtain ⟨A1, cap1, rfl⟩ := own_form hrow
          cases gk with
          | zero =>
            obtain rfl : i = n := by omega
            have hlt : ¬ ((i : Int) < (i : Int)) := by omega
            obtain ⟨wo, hwo⟩ : ∃ x, x = wr := ⟨_, rfl⟩
            subst hwo
            go_wp2
            go_loopg [5, 7] (i + 1) (fun g s5 s7 wr => ∃ (t : Nat) (cs : List Int), t + g = i + 1 ∧ s7 = .int .i64 t ∧ wr.ownsRow w.heap.size 3 1 s5 i (iv cs) ∧ Hid (cs.length = i ∧ ckB l cs = 0 ∧ opens cs i + t ≤ i) ∧ Below w.heap.size w wr)
            case atStart => exact ⟨0, _, by omega, rfl, hrow, Lib.hid ⟨by simp, rep_ck HC0.out H.out.len, opens_le⟩, hb2⟩
            case round =>
              obtain ⟨t, cs, htg, rfl, hrow, HK, hb⟩ := hrel
              obtain ⟨A2, cap2, rfl⟩ := own_form hrow
              obtain ⟨wi, hwi⟩ : ∃ x, x = wr := ⟨_, rfl⟩
              subst hwi
              cases gk with
              | zero => have := HK.out.2.2; exfalso; omega
              | succ g =>
                have hle : (t : Int) ≤ (i : Int) := by have := HK.out.2.2; omega
                have hI := Lib.hid (show Il wi A2 i cs from ⟨ints_iv HK.out.1 hrow, HK.out.1, by unfold maxLen; omega⟩)
                have hE := Lib.hid (show stlL l cs = settleB l cs from by unfold stlL; rw [if_pos HK.out.2.1])
                have hFl := Lib.hid (show (settleB l cs).length = i from settled_len.trans HK.out.1)
                have hEr := Lib.hid (show rdyL l (settleB l cs) = readyB l (settleB l cs) from by unfold rdyL; rw [if_pos (settled_ck HK.out.2.1)])
                have KS := Lib.hid (settle_any A A2 i cap i cap2 l cs wi (H.out.next hb) hI.out)
                rw [hE.out, HK.out.2.1] at KS
                have KR := Lib.hid (fun V A3 c3 (hb3 : Below w.heap.size w V) (hI3 : IntsAt V A3 (settleB l cs)) => ready_any A A3 i cap i c3 l (settleB l cs) V (H.out.next hb3) ⟨hI3, hFl.out, by unfold maxLen; omega⟩)
                rw [hEr.out, settled_ck HK.out.2.1] at KR
                have KO := Lib.hid (fun V (hb3 : Below wi.heap.size wi V) => over_any A A2 i cap i cap2 l cs V (H.out.next (bmore hb hb3)) (hI.out.next hb3))
                rw [runs_over HK.out.2.1] at KO
                have hRl := ready_le (l := l) (cs := settleB l cs)
                rw [H.out.len] at hRl
                generalize ovN l cs = on at *
                by_cases hz : (readyB l (settleB l cs)).length = 0
                · have hz2 : ((readyB l (settleB l cs)).length == 0) = true := by rw [hz]; rfl
                  rw [hz2] at KO
                  clear hz2
                  generalize readyB l (settleB l cs) = R at *
                  obtain rfl : R = [] := List.length_eq_zero_iff.1 hz
                  clear hz
                  generalize settleB l cs = F at *
                  go_wp2_with (first
                    | (go_at_call 24; (with_reducible refine KS.out.mono ?_); rintro y w3 ⟨v3, rfl, row3, hb3⟩; rw [hFl.out] at row3; obtain ⟨A3, cap3, rfl⟩ := own_form row3; have I3 := Lib.hid (ints_iv hFl.out row3))
                    | (go_at_call 22; (with_reducible refine (KR.out _ _ _ (bmore hb hb3) I3.out).mono ?_); rintro y w4 ⟨v4, rfl, row4, hb4⟩; obtain ⟨A4, cap4, rfl⟩ := own_form row4)
                    | (go_at_call 26; (with_reducible refine (KO.out _ (bmore hb3 hb4)).mono ?_); rintro y w5 ⟨rfl, hb5⟩)
                    | (go_at_call 16; (with_reducible refine (KL.out _).mono ?_); rintro y w6 ⟨rfl, hb6⟩))
                  go_ret
                  exact ⟨by first | rfl | simp_all, bmore hb (bmore hb3 (bmore hb4 (bmore hb5 hb6)))⟩
                · have hz2 : ((readyB l (settleB l cs)).length == 0) = false := by simpa using hz
                  rw [hz2] at KO
                  have hz3 : (((readyB l (settleB l cs)).length : Int) == 0) = false := by rw [beq_eq_false_iff_ne]; omega
                  have HF := Lib.hid (fun v h0 h1 => first_of (v := v) HK.out.2.1 hz h0 h1)
                  have hz4 : (0 : Int) < ((readyB l (settleB l cs)).length : Int) := by omega
                  have hz5 : 0 < (readyB l (settleB l cs)).length := by omega
                  clear hz2 hz
                  generalize readyB l (settleB l cs) = R at *
                  generalize settleB l cs = F at *
                  go_wp2_with (first
                    | (go_at_call 24; (with_reducible refine KS.out.mono ?_); rintro y w3 ⟨v3, rfl, row3, hb3⟩; rw [hFl.out] at row3; obtain ⟨A3, cap3, rfl⟩ := own_form row3; have I3 := Lib.hid (ints_iv hFl.out row3))
                    | (go_at_call 22; (with_reducible refine (KR.out _ _ _ (bmore hb hb3) I3.out).mono ?_); rintro y w4 ⟨v4, rfl, row4, hb4⟩; obtain ⟨A4, cap4, rfl⟩ := own_form row4; have I4 := Lib.hid (ints_iv rfl row4))
                    | (go_at_call 26; (with_reducible refine (KO.out _ (bmore hb3 hb4)).mono ?_); rintro y w5 ⟨rfl, hb5⟩))
                  have HB5 := Lib.hid (bmore hb (bmore hb3 (bmore hb4 hb5)))
                  have I5 := Lib.hid ((I3.out.next hb4).next hb5)
                  have row5 := own_next (own_next row3 hb4) hb5
                  have hs1 := hb.size
                  obtain ⟨adR, rfl, q1, q2⟩ := (I4.out.next hb5).at_ (k := 0) hz5
                  obtain ⟨q, e0, hql, _⟩ := HF.out 0 (by omega) (by omega)
                  rw [H.out.len] at hql
                  obtain ⟨hv0, hv1⟩ := HE.out q hql
                  obtain ⟨q', e0', _, hed, hck, hop⟩ := HF.out (es.getD q 0) hv0 hv1
                  obtain rfl : q' = q := by rw [e0] at e0'; omega
                  rw [e0] at q2
                  have e00 : adR.add 0 = adR := by unfold Addr.add; simp
                  rw [e00] at q2
                  have HED := Lib.hid hed
                  have HCK := Lib.hid hck
                  have HOP := Lib.hid hop
                  obtain ⟨g3, hg3, hg3a, hg3b⟩ := own_some row5 (by omega)
                  subst hg3
                  obtain ⟨adC, hAC, hCb, hCc⟩ := (HC.out.ints.next HB5.out).at_ (k := q') (by rw [HC.out.len]; omega)
                  obtain ⟨adL, B, c, rfl, gl1, gl2⟩ := (H.out.sts.next HB5.out).at_ (i := q') (by rw [H.out.len]; exact hql)
                  have G := Lib.hid gl2
                  have c4 := gl2.c4
                  have lm := gl2.lm
                  unfold maxLen at lm
                  have p0 : (0 : Int) ≤ (q' : Int) := by omega
                  have p1 : (q' : Int) < (i : Int) := by omega
                  have p2 : (q' : Int) < (m : Int) := by omega
                  have HQ := Lib.hid (And.intro q1 q2)
                  have HCC := Lib.hid (And.intro hCb hCc)
                  have HR5 := Lib.hid row5
                  have HGB := Lib.hid (And.intro hg3a hg3b)
                  have HAC := Lib.hid hAC
                  clear e0 e0' hed hck hop gl2 hCc hCb hv0 hv1 row3 row4 row5 hb3 hb4 hb5 hg3a hg3b HF I4 KS KR KO hrow hAC
                  generalize stA l q' = x at *
                  go_wp2
                  go_loopg [14] x.es.length (fun g3 s14 wz => ∃ k : Nat, k + g3 = x.es.length ∧ s14 = .int .i64 k ∧ wz = w5)
                  case atStart => exact ⟨0, by omega, rfl, rfl⟩
                  case round =>
                    obtain ⟨k, hkg, rfl, rfl⟩ := hrel
                    cases gk with
                    | zero =>
                      have hkm : ¬ ((k : Int) < (x.es.length : Int)) := by omega
                      go_wp2
                      refine region_tail 11 (by kernel_rfl) (by kernel_rfl) (fun w6 hw6 => ?_)
                      have hb6 := below_hid (Below.refl wr.heap.size wr) hw6
                      clear c4
                      have q3 := (hb6.cell HQ.out.1).trans HQ.out.2
                      have hCc := (hb6.cell (p := adC.add q') (by rw [block_add]; exact HCC.out.1)).trans HCC.out.2
                      have hAC := HAC.out
                      subst hAC
                      have row6 := own_next HR5.out hb6
                      have k6 := (row6.cellAt q' (by omega)).trans (iv_at (by rw [hFl.out]; exact hql))
                      have f6 := row6.frozenAt q'
                      generalize hv : es.getD q' 0 = v at *
                      have hst := Lib.hid (row6.stored q' (.int .i64 v)).1
                      rw [← iv_set] at hst
                      clear hv hw6
                      simp only [List.take_succ_cons, List.take_zero, List.drop_succ_cons, List.drop_zero]
                      repeat still_step
                      refine wpStill_nil ?_
                      go_wp2
                      go_roundg g
                      case measure => omega
                      case rel => exact ⟨t + 1, _, by omega, by go_num, Joins.ownsRow_le hst.out hs1, Lib.hid ⟨by rw [List.length_set]; exact hFl.out, HCK.out, by have := HOP.out; rw [H.out.len] at this; have := HK.out.2.2; omega⟩, (bmore HB5.out hb6).setCell (Nat.le_trans hs1 HGB.out.1) _⟩
                    | succ g3 =>
                      have j0 : (0 : Int) ≤ (k : Int) := by omega
                      have j1 : (k : Int) < (x.es.length : Int) := by omega
                      obtain ⟨ad3, hB, hh, d0, d1⟩ := G.out.eds.at_ (k := k) (by omega)
                      subst hB
                      obtain ⟨j, hj, hjl, hjc⟩ := HED.out k (by omega)
                      rw [H.out.len] at hjl
                      rw [hj] at d0
                      have hc5 := (HR5.out.cellAt j (by omega)).trans (iv_at (by rw [hFl.out]; exact hjl))
                      have p3 : (0 : Int) ≤ (j : Int) := by omega
                      have p4 : (j : Int) < (i : Int) := by omega
                      clear hj
                      generalize F.getD j 0 = z at *
                      go_wp2
                      go_roundg g3
                      case measure => omega
                      case rel => exact ⟨k + 1, by omega, by go_num, rfl⟩
          | succ g =>
            have i0 : (0 : Int) ≤ (i : Int) := by omega
            have i1 : (i : Int) < (n : Int) := by omega
            have i2 : (i : Int) < (m : Int) := by omega
            obtain ⟨ad, rfl, h1, h2⟩ := (HC.out.ints.next hb2).at_ (k := i) (by rw [HC.out.len]; omega)
            have hs2 := hb2.size
            have hx := Lib.hid (show 0 ≤ es.getD i 0 → es.getD i 0 ≤ 255 → ∀ j, j < i + 1 → 0 ≤ es.getD j 0 ∧ es.getD j 0 ≤ 255 from fun h0 h1 j hj => by
              rcases Nat.lt_or_ge j i with h | h
              · exact HE.out j h
              · obtain rfl : j = i := by omega
                exact ⟨h0, h1⟩)
            generalize es.getD i 0 = z at *
            by_cases z0 : z < 0
            · go_wp2_with (go_at_call 16; (with_reducible refine (KL.out _).mono ?_); rintro y w6 ⟨rfl, hb6⟩)
              go_ret
              exact ⟨rfl, bmore hb2 hb6⟩
            · by_cases z1 : z > 255
              · go_wp2_with (go_at_call 16; (with_reducible refine (KL.out _).mono ?_); rintro y w6 ⟨rfl, hb6⟩)
                go_ret
                exact ⟨rfl, bmore hb2 hb6⟩
              · have hx2 := Lib.hid (hx.out (by omega) (by omega))
                go_wp2_with (at_builtin; refine wpList_append_own _ rfl _ _ 28 rfl w.heap.size 3 ti (.int .i64 0) 1 8 Try.underlying28 hi hz0 hz1 hz2 rfl (by decide) _ _ _ rfl (hrow.alloc _) ⟨wr.heap.size, 0, none⟩ 1 1 [.int .i64 (-1)] rfl rfl (cell_one_new _ _ _) (by simp [Value.oneCell']) (by unfold maxLen; omega) (by omega) (by simp; omega) ?_; intro v6 w6 hown6 hgrow6 _; obtain ⟨g6, cap6, rfl⟩ := ownsRow_succ hown6; have hb6 := appended_below hrow (by omega) hgrow6)
                go_roundg g
                case measure => omega
                case rel => exact ⟨i + 1, by omega, by go_num, by rw [rep_snoc]; exact hown6, hx2, hb2.trans hb6⟩
      · have hc' : (checkB l == 0) = false := by simpa using hc
        have hc2 : (checkB l != 0) = true := by unfold bne; rw [hc']; rfl
        generalize checkB l = c at *
        clear hb hc h hC
        go_enter Try.func6, Try.ntmps6
        go_wp2_with (first
          | (go_at_call 15; (with_reducible refine K1.out.mono ?_); rintro y w ⟨rfl, rfl⟩)
          | (go_at_call 17; (with_reducible refine K2.out.mono ?_); rintro y w1 ⟨rfl, hb1⟩)
          | (go_at_call 16; (with_reducible refine (KL.out _).mono ?_); rintro y w6 ⟨rfl, hb6⟩))
        go_ret
        exact ⟨rfl, bmore hb1 hb6⟩
end Go.Proofs.Ytodgkjmkjahkiaa
