/- The law on steps that stay ready. -/
import Derived.Test.YtodgkjmkjahkiaaE4
namespace Go.Proofs.Ytodgkjmkjahkiaa
open Go.RowKit

theorem mem_ready {l : List St} {cs : List Int} {x : Int} : hasB (readyB l cs) x = true ↔ ∃ i, i < l.length ∧ rdB l cs i = true ∧ x = i := by
  rw [hasB_iff]
  exact mem_filtR
theorem rd_iff {l : List St} {cs : List Int} {i : Nat} : rdB l cs i = true ↔ cs.getD i 0 = -1 ∧ ∀ e, e ∈ (stA l i).es → holdsB e cs = true := by
  have h : rdB l cs i = (cs.getD i 0 == -1 && allR (fun k => holdsB (edA (stA l i).es k) cs) (stA l i).es.length) := rfl
  rw [h, Bool.and_eq_true, allE (f := fun e => holdsB e cs)]
  simp
theorem set_other {cs : List Int} {i j : Nat} {v : Int} (h : i ≠ j) : (cs.set j v).getD i 0 = cs.getD i 0 := by
  rw [List.getD_eq_getElem?_getD, List.getD_eq_getElem?_getD, List.getElem?_set_ne (by omega)]
theorem set_same {cs : List Int} {j : Nat} {v : Int} (h : j < cs.length) : (cs.set j v).getD j 0 = v := by
  rw [List.getD_eq_getElem?_getD, List.getElem?_set_self h]; rfl
theorem later_ck {l : List St} {cs : List Int} {j : Nat} {v : Int} (h : ckB l cs = 0) (hj : j < cs.length) (h0 : -1 ≤ v) (h1 : v ≤ 256) : ckB l (cs.set j v) = 0 := by
  have hk := ck_ok h
  refine ck_mk hk.1 (by simpa using hk.2.1) fun i hi => ?_
  rw [List.length_set] at hi
  by_cases e : i = j
  · subst e; rw [set_same hi]; exact ⟨h0, h1⟩
  · rw [set_other e]; exact ck_range h hi
theorem later_no {l : List St} {cs : List Int} {j : Nat} {v : Int} (hj : j < cs.length) (hv : v ≠ -1) : hasB (readyB l (cs.set j v)) (j : Int) = false := by
  rw [← Bool.not_eq_true, mem_ready]
  rintro ⟨i, _, h2, h3⟩
  obtain rfl : i = j := by omega
  exact hv ((set_same hj).symm.trans (rd_iff.1 h2).1)
theorem later_yes {l : List St} {cs : List Int} {j : Nat} {v : Int} (hk : ckB l cs = 0) (hc : cs.getD j 0 = -1) {x : Int} (hx : hasB (readyB l cs) x = true) (hne : (x == (j : Int)) = false) : hasB (readyB l (cs.set j v)) x = true := by
  rw [mem_ready] at hx ⊢
  obtain ⟨i, h1, h2, rfl⟩ := hx
  have hij : i ≠ j := by rw [beq_eq_false_iff_ne] at hne; omega
  rw [rd_iff] at h2
  refine ⟨i, h1, rd_iff.2 ⟨(set_other hij).trans h2.1, fun e he => ?_⟩, rfl⟩
  have hh := h2.2 e he
  obtain ⟨k, hkl, rfl⟩ := List.getElem_of_mem he
  have hed : (stA l i).es[k] = edA (stA l i).es k := by unfold edA; rw [List.getD_eq_getElem?_getD, List.getElem?_eq_getElem hkl]; rfl
  obtain ⟨s, hs, hsl⟩ := may_edge (check_ok (ck_ok hk).1).1 h1 hkl
  rw [hed] at hh ⊢
  have hsj : s ≠ j := by
    rintro rfl
    have := holds_open hh
    rw [hs] at this
    exact this hc
  rw [← holds_cong (F := cs) (G := cs.set j v)]
  · exact hh
  · rw [hs]; exact (set_other hsj).symm
theorem ready_at {l : List St} {cs : List Int} {i : Nat} (h : i < (readyB l cs).length) : hasB (readyB l cs) ((readyB l cs).getD i 0) = true := by
  rw [hasB_iff, List.getD_eq_getElem?_getD, List.getElem?_eq_getElem h]
  exact List.getElem_mem h
theorem ready_le {l : List St} {cs : List Int} : (readyB l cs).length ≤ l.length := filtR_le
theorem only_grown {w w' : World} (h : w.grownBy w' none) : Below w.heap.size w w' := ⟨h.os, h.tape, h.output, h.size, fun i hi => h.block i hi (by simp)⟩
set_option maxRecDepth 100000 in
set_option maxHeartbeats 4000000 in
theorem ready_law (A C : Option Addr) (n cap m cc : Nat) (l : List St) (cs : List Int) (at_ code : Int) (w : World) (h : Sl w A n cap l) (hC : Il w C m cs) :
    Calls Try.prog 7 #[.agg #[.slice A n cap, .slice C m cc, .int .i64 at_, .int .i64 code]] w fun e w' => e = .returned (.bool true) ∧ Below w.heap.size w w' := by
  have KL := Lib.hid live_any
  have K1 := Lib.hid (fun V (hb : Below w.heap.size w V) => small_any A n cap l V (h.next hb).sts h.len h.most)
  have K2 := Lib.hid (fun V (hb : Below w.heap.size w V) => ready_any A C n cap m cc l cs V (h.next hb) (hC.next hb))
  have hmm := hC.most
  unfold maxLen at hmm
  have d0 := (Bk.new w 42 #[.slice A n cap, .slice C m cc, .int .i64 at_, .int .i64 code]).cell 0 _ rfl
  have d1 := (Bk.new w 42 #[.slice A n cap, .slice C m cc, .int .i64 at_, .int .i64 code]).cell 1 _ rfl
  have d2 := (Bk.new w 42 #[.slice A n cap, .slice C m cc, .int .i64 at_, .int .i64 code]).cell 2 _ rfl
  have d3 := (Bk.new w 42 #[.slice A n cap, .slice C m cc, .int .i64 at_, .int .i64 code]).cell 3 _ rfl
  have HB := Lib.hid (fun k => below_drewN' (below_alloc w (.cells #[.slice A n cap, .slice C m cc, .int .i64 at_, .int .i64 code] 42)) k)
  have H := Lib.hid h
  have HC := Lib.hid hC
  clear h hC
  generalize smallB l = b at *
  go_enter Try.func7, Try.ntmps7
  go_wp2
  go_quiet (fail)
  go_wp2_with fail
  refine (K1.out _ (HB.out _)).mono ?_
  rintro y w1 ⟨rfl, hw⟩
  have HB1 := Lib.hid (show Below w.heap.size w w1 from by rw [hw]; exact HB.out _)
  clear hw d0 d1 d2 d3 HB K1
  cases b
  · go_wp2_with (go_at_call 16; (with_reducible refine (KL.out _).mono ?_); rintro y w9 ⟨rfl, hb9⟩)
    go_ret
    exact ⟨rfl, bmore HB1.out hb9⟩
  · by_cases g1 : m ≤ 40
    · have g1' : ¬ ((m : Int) > 40) := by omega
      by_cases g2 : 0 ≤ at_
      · have g2' : ¬ (at_ < 0) := by omega
        by_cases g3 : at_ < m
        · have g3' : ¬ (at_ ≥ (m : Int)) := by omega
          by_cases g4 : 0 ≤ code
          · have g4' : ¬ (code < 0) := by omega
            by_cases g5 : code ≤ 256
            · have g5' : ¬ (code > 256) := by omega
              go_wp2_with fail
              refine (K2.out _ HB1.out).mono ?_
              rintro y w2 ⟨v2, rfl, hrow2, hb2⟩
              obtain ⟨A2, cap2, rfl⟩ := own_form hrow2
              have HB2 := Lib.hid (bmore HB1.out hb2)
              have hI2 := Lib.hid (ints_iv rfl hrow2)
              clear hb2 hrow2
              by_cases hk : ckB l cs = 0
              · rw [hk]
                obtain ⟨j, rfl⟩ := Int.eq_ofNat_of_zero_le g2
                have hjm : j < m := by omega
                have hR := Lib.hid (show rdyL l cs = readyB l cs from by unfold rdyL; rw [if_pos hk])
                have hR16 := ready_le (l := l) (cs := cs)
                rw [H.out.len] at hR16
                have hmn := (ck_ok hk).2.1
                rw [H.out.len, HC.out.len] at hmn
                have h16 := (may_len (check_ok (ck_ok hk).1).1).2
                rw [H.out.len] at h16
                have hm16 : m ≤ 16 := by omega
                have HMN := Lib.hid hmn
                clear hmn
                have HY := Lib.hid (fun (hc : cs.getD j 0 = -1) i (hi : i < (readyB l cs).length) => later_yes (v := code) hk hc (ready_at hi))
                have HNo := Lib.hid (later_no (l := l) (v := code) (by rw [HC.out.len]; exact hjm) (show code ≠ -1 by omega))
                have HCk := Lib.hid (later_ck (v := code) hk (by rw [HC.out.len]; exact hjm) (by omega) (by omega))
                rw [hR.out] at hI2 ⊢
                generalize readyB l cs = R at *
                obtain ⟨ad, rfl, h1, h2⟩ := (HC.out.ints.next HB2.out).at_ (k := j) (by rw [HC.out.len]; exact hjm)
                by_cases hc : cs.getD j 0 = -1
                · rw [hc] at h2
                  have HY2 := Lib.hid (HY.out hc)
                  clear HY hc hk
                  obtain ⟨ti, hi, hz0, hz1, hz2⟩ := info_parts info3
                  have HA := Lib.hid (HC.out.ints.next HB2.out)
                  have HCl := Lib.hid HC.out.len
                  go_wp2_with (at_builtin; refine wpList_append_own _ rfl _ _ 28 rfl w2.heap.size 3 ti (.int .i64 0) 1 8 Try.underlying28 hi hz0 hz1 hz2 rfl (by decide) _ _ _ rfl (World.ownsRow_nil _ _ _ _) ad m cc (iv cs) rfl ?qc1 ?qc2 ?qc3 ?qc4 ?qc5 ?qc6 ?_)
                  case qc1 => rw [iv_len, HCl.out]; simp
                  case qc2 =>
                    intro k u hu
                    have hkn : k < cs.length := by
                      have := (List.getElem?_eq_some_iff.1 hu).1
                      rwa [iv_len] at this
                    rw [(HA.out.cellAt hkn).1, ← hu]
                    simp [iv, List.getD, hkn]
                  case qc3 => intro u hu; obtain ⟨x, _, rfl⟩ := List.mem_map.1 hu; rfl
                  case qc4 => unfold maxLen; omega
                  case qc5 => omega
                  case qc6 => simp
                  intro v4 w4 hown4 hgrow4 _
                  obtain ⟨m', hm'⟩ : ∃ m', m = m' + 1 := ⟨m - 1, by omega⟩
                  rw [hm'] at hown4
                  obtain ⟨g4, cap4, e4⟩ := ownsRow_succ hown4
                  rw [← hm'] at hown4 e4
                  clear hm' m'
                  subst e4
                  have hb4 : Below w2.heap.size w2 w4 := only_grown hgrow4
                  have hg4 : w2.heap.size ≤ g4 := by
                    rcases hown4.2 with ⟨h0, _⟩ | ⟨g', c', cu, q1, q2, q3, _⟩
                    · cases h0
                    · cases q1; exact q2
                  have k4 := (hown4.cellAt j (by omega)).trans (iv_at (by rw [HCl.out]; exact hjm))
                  have f4 := hown4.frozenAt j
                  have hst := (hown4.stored j (.int .i64 code)).1
                  rw [← iv_set] at hst
                  have hb5 := hb4.setCell (p := ⟨g4, j, none⟩) hg4 (.int .i64 code)
                  have HI := Lib.hid (ints_iv (by simp; exact HCl.out) hst)
                  have HS5 := Lib.hid (H.out.next (bmore HB2.out hb5))
                  have KR := Lib.hid (ready_any A (some ⟨g4, 0, none⟩) n cap m cap4 l (cs.set j code) _ HS5.out ⟨HI.out, by simp; exact HCl.out, by unfold maxLen; omega⟩)
                  have hR2 := Lib.hid (show rdyL l (cs.set j code) = readyB l (cs.set j code) from by unfold rdyL; rw [if_pos HCk.out])
                  have hR2l := ready_le (l := l) (cs := cs.set j code)
                  rw [H.out.len] at hR2l
                  rw [hR2.out, HCk.out] at KR
                  have hI5 := Lib.hid (hI2.out.next hb5)
                  have HB5 := Lib.hid (bmore HB2.out hb5)
                  clear hst hb5 hb4 hgrow4 hR2 HS5 HI HCk hg4
                  generalize readyB l (cs.set j code) = R2 at *
                  go_wp2_with (go_at_call 22; (with_reducible refine KR.out.mono ?_); rintro y w6 ⟨v6, rfl, hrow6, hb6⟩; obtain ⟨A6, cap6, rfl⟩ := own_form hrow6; have hI6 := Lib.hid (ints_iv rfl hrow6))
                  have hI7 := Lib.hid (hI5.out.next hb6)
                  have HB6 := Lib.hid (bmore HB5.out hb6)
                  clear hrow6 hb6
                  have K28 := Lib.hid (fun x => in_any A6 R2.length cap6 R2 x w6 hI6.out rfl (by unfold maxLen; omega))
                  go_loopg [12] R.length (fun g s12 wr => ∃ i : Nat, i + g = R.length ∧ s12 = .int .i64 i ∧ wr = w6)
                  case atStart => exact ⟨0, by omega, rfl, rfl⟩
                  case round =>
                    obtain ⟨i, hig, rfl, rfl⟩ := hrel
                    cases gk with
                    | zero =>
                      have hlt : ¬ ((i : Int) < (R.length : Int)) := by omega
                      have KN := Lib.hid (K28.out (j : Int))
                      rw [HNo.out] at KN
                      go_wp2_with (first
                        | (go_at_call 28; (with_reducible refine KN.out.mono ?_); rintro y w7 ⟨rfl, rfl⟩)
                        | (go_at_call 16; (with_reducible refine (KL.out _).mono ?_); rintro y w9 ⟨rfl, hb9⟩))
                      go_ret
                      exact ⟨by first | rfl | simp_all, bmore HB6.out hb9⟩
                    | succ g =>
                      have i0 : (0 : Int) ≤ (i : Int) := by omega
                      have i1 : (i : Int) < (R.length : Int) := by omega
                      obtain ⟨ad7, rfl, e1, e2⟩ := hI7.out.at_ (k := i) (by omega)
                      have hy := Lib.hid (HY2.out i (by omega))
                      have KY := Lib.hid (K28.out (R.getD i 0))
                      generalize R.getD i 0 = x at *
                      cases hx : (x == (j : Int))
                      · have hx2 : (x != (j : Int)) = true := by unfold bne; rw [hx]; rfl
                        rw [hy.out hx] at KY
                        go_wp2_with (go_at_call 28; (with_reducible refine KY.out.mono ?_); rintro y w7 ⟨rfl, rfl⟩)
                        go_roundg g
                        case measure => omega
                        case rel => exact ⟨i + 1, by omega, by go_num, rfl⟩
                      · have hx2 : (x != (j : Int)) = false := by unfold bne; rw [hx]; rfl
                        go_wp2
                        go_roundg g
                        case measure => omega
                        case rel => exact ⟨i + 1, by omega, by go_num, rfl⟩
                · have hc2 : (cs.getD j 0 == -1) = false := by simpa using hc
                  have hc3 : (cs.getD j 0 != -1) = true := by unfold bne; rw [hc2]; rfl
                  generalize cs.getD j 0 = z at *
                  clear hc
                  go_wp2_with (go_at_call 16; (with_reducible refine (KL.out _).mono ?_); rintro y w9 ⟨rfl, hb9⟩)
                  go_ret
                  exact ⟨rfl, bmore HB2.out hb9⟩
              · have hc' : (ckB l cs == 0) = false := by simpa using hk
                have hc2 : (ckB l cs != 0) = true := by unfold bne; rw [hc']; rfl
                generalize ckB l cs = c at *
                clear hk
                go_wp2_with (go_at_call 16; (with_reducible refine (KL.out _).mono ?_); rintro y w9 ⟨rfl, hb9⟩)
                go_ret
                exact ⟨rfl, bmore HB2.out hb9⟩
            · have g5' : code > 256 := by omega
              clear g5
              go_wp2_with (go_at_call 16; (with_reducible refine (KL.out _).mono ?_); rintro y w9 ⟨rfl, hb9⟩)
              go_ret
              exact ⟨rfl, bmore HB1.out hb9⟩
          · have g4' : code < 0 := by omega
            clear g4
            go_wp2_with (go_at_call 16; (with_reducible refine (KL.out _).mono ?_); rintro y w9 ⟨rfl, hb9⟩)
            go_ret
            exact ⟨rfl, bmore HB1.out hb9⟩
        · have g3' : at_ ≥ (m : Int) := by omega
          clear g3
          go_wp2_with (go_at_call 16; (with_reducible refine (KL.out _).mono ?_); rintro y w9 ⟨rfl, hb9⟩)
          go_ret
          exact ⟨rfl, bmore HB1.out hb9⟩
      · have g2' : at_ < 0 := by omega
        clear g2
        go_wp2_with (go_at_call 16; (with_reducible refine (KL.out _).mono ?_); rintro y w9 ⟨rfl, hb9⟩)
        go_ret
        exact ⟨rfl, bmore HB1.out hb9⟩
    · have g1' : (m : Int) > 40 := by omega
      clear g1
      go_wp2_with (go_at_call 16; (with_reducible refine (KL.out _).mono ?_); rintro y w9 ⟨rfl, hb9⟩)
      go_ret
      exact ⟨rfl, bmore HB1.out hb9⟩
end Go.Proofs.Ytodgkjmkjahkiaa
