/- The document's dag: holds, Ready, doomed. -/
import Derived.Test.YtodgkjmkjahkiaaR3
import Derived.Test.YtodgkjmkjahkiaaE5
namespace Go.Proofs.Ytodgkjmkjahkiaa
open Go.RowKit

theorem may_kind {l : List St} (h : mayB l = true) {i k : Nat} (hi : i < l.length) (hk : k < (stA l i).es.length) : 0 ≤ (edA (stA l i).es k).k ∧ (edA (stA l i).es k).k ≤ 2 := by
  unfold mayB at h
  simp only [Bool.and_eq_true] at h
  have h1 := allR_iff.1 h.2 i hi
  simp only [Bool.and_eq_true] at h1
  have h2 := allR_iff.1 h1.2 k hk
  unfold edgeB at h2
  simp only [Bool.and_eq_true] at h2
  exact isW_iff.1 h2.1.2
set_option maxRecDepth 100000 in
set_option maxHeartbeats 1000000 in
theorem rholds_any (A : Option Addr) (n cap : Nat) (cs : List Int) (j : Nat) (k : Int) (w : World) (hA : IntsAt w A cs) (hn : cs.length = n) (hj : j < n) (hk : 0 ≤ k ∧ k ≤ 2) (hc : -1 ≤ cs.getD j 0 ∧ cs.getD j 0 ≤ 256) :
    Calls Try.prog 50 #[.agg #[.int .i64 j, .int .i64 k], .slice A n cap] w fun x w' => x = .returned (.bool (hB k (cs.getD j 0))) ∧ Below w.heap.size w w' := by
  have hb := below_alloc w (.cells #[.int .i64 j, .int .i64 k] 40)
  obtain ⟨ad, rfl, h1, h2⟩ := (hA.next hb).at_ (k := j) (by rw [hn]; exact hj)
  have d0 := (Bk.new w 40 #[.int .i64 j, .int .i64 k]).cell 0 _ rfl
  have d1 := (Bk.new w 40 #[.int .i64 j, .int .i64 k]).cell 1 _ rfl
  have i0 : (0 : Int) ≤ (j : Int) := by omega
  have i1 : (j : Int) < (n : Int) := by omega
  generalize cs.getD j 0 = c at *
  clear hA hn
  have HB := Lib.hid hb
  clear hb
  have h3 : k = 0 ∨ k = 1 ∨ k = 2 := by omega
  clear hk
  rcases h3 with rfl | rfl | rfl
  · clear hc
    unfold hB
    cases c0 : (c == 0)
    all_goals
      go_enter Try.func50, Try.ntmps50
      go_wp2
      go_ret
      exact ⟨by first | rfl | simp_all, HB.out⟩
  · clear hc
    have e : hB 1 c = !(c == -1) := rfl
    rw [e]
    cases c0 : (c == -1)
    all_goals
      go_enter Try.func50, Try.ntmps50
      go_wp2
      go_ret
      exact ⟨by first | rfl | simp_all, HB.out⟩
  · have e : hB 2 c = (!(c == -1) && !(c == 0) && !(c == 256)) := rfl
    by_cases q1 : c ≥ 1
    · by_cases q2 : c ≤ 255
      · have hT := Lib.hid (show hB 2 c = true from by
          rw [e, show (c == -1) = false from by rw [beq_eq_false_iff_ne]; omega, show (c == 0) = false from by rw [beq_eq_false_iff_ne]; omega, show (c == 256) = false from by rw [beq_eq_false_iff_ne]; omega]; rfl)
        clear e hc
        go_enter Try.func50, Try.ntmps50
        go_wp2
        go_ret
        exact ⟨by rw [hT.out]; rfl, HB.out⟩
      · have hT := Lib.hid (show hB 2 c = false from by
          rw [e, show (c == 256) = true from by rw [beq_iff_eq]; omega]; simp)
        clear e hc
        go_enter Try.func50, Try.ntmps50
        go_wp2
        go_ret
        exact ⟨by rw [hT.out]; rfl, HB.out⟩
    · have hT := Lib.hid (show hB 2 c = false from by
        have h4 : c = -1 ∨ c = 0 := by omega
        rcases h4 with rfl | rfl <;> rfl)
      clear e hc
      go_enter Try.func50, Try.ntmps50
      go_wp2
      go_ret
      exact ⟨by rw [hT.out]; rfl, HB.out⟩
set_option maxRecDepth 100000 in
set_option maxHeartbeats 4000000 in
theorem rready_any (A C : Option Addr) (n cap m cc : Nat) (l : List St) (cs : List Int) (w : World) (h : Sl w A n cap l) (hC : Il w C m cs) :
    Calls Try.prog 23 #[.slice A n cap, .slice C m cc] w (Gives2 w (rdyL l cs) (ckB l cs)) := by
  obtain ⟨ti, hi, hz0, hz1, hz2⟩ := info_parts info3
  have K1 := Lib.hid (rck_any A C n cap m cc l cs w h hC)
  by_cases hk : ckB l cs = 0
  · have hok := ck_ok hk
    have hmay := Lib.hid (check_ok hok.1).1
    have hrg := Lib.hid (fun j (hj : j < cs.length) => ck_range hk hj)
    have h16 := (may_len hmay.out).2
    rw [h.len] at h16
    obtain rfl : m = n := by rw [← hC.len, ← h.len, hok.2.1]
    have HR := Lib.hid (show rdyL l cs = filtR (rdB l cs) m from by unfold rdyL readyB; rw [if_pos hk, h.len])
    have H := Lib.hid h
    have HC := Lib.hid hC
    rw [hk] at K1 ⊢
    clear hk hok h hC
    go_enter Try.func23, Try.ntmps23
    go_wp2_with (go_at_call 49; (with_reducible refine K1.out.mono ?_); rintro y w1 ⟨rfl, hb1⟩)
    go_loopg [7, 8] m (fun g s7 s8 wr => ∃ i : Nat, i + g = m ∧ s8 = .int .i64 i ∧ wr.ownsRow w.heap.size 3 1 s7 (filtR (rdB l cs) i).length (iv (filtR (rdB l cs) i)) ∧ Below w.heap.size w wr)
    case atStart => exact ⟨0, by omega, rfl, World.ownsRow_nil _ _ _ _, hb1⟩
    case round =>
      obtain ⟨i, hig, rfl, hrow, hb⟩ := hrel
      obtain ⟨wo, hwo⟩ : ∃ x, x = wr := ⟨_, rfl⟩
      subst hwo
      obtain ⟨A1, cap1, rfl⟩ := own_form hrow
      have hsz := hb.size
      cases gk with
      | zero =>
        obtain rfl : i = m := by omega
        have hlt : ¬ ((i : Int) < (i : Int)) := by omega
        go_wp2
        go_ret2
        refine ⟨_, rfl, ?_, hb⟩
        rw [HR.out]
        exact hrow
      | succ g =>
        have i0 : (0 : Int) ≤ (i : Int) := by omega
        have i1 : (i : Int) < (m : Int) := by omega
        have him := Lib.hid (show i < l.length from by rw [H.out.len]; omega)
        obtain ⟨ad, B, c, rfl, h1, h2⟩ := (H.out.sts.next hb).at_ (i := i) him.out
        have G := Lib.hid h2
        have lm := h2.lm
        unfold maxLen at lm
        obtain ⟨ad2, rfl, h3, h4⟩ := (HC.out.ints.next hb).at_ (k := i) (by rw [HC.out.len]; omega)
        have HH := Lib.hid (show rdB l cs i = (cs.getD i 0 == -1 && allR (hoB l cs i) (stA l i).es.length) from rfl)
        have HO := Lib.hid (fun k (hk : k < (stA l i).es.length) => may_edge hmay.out him.out hk)
        have HKd := Lib.hid (fun k (hk : k < (stA l i).es.length) => may_kind hmay.out him.out hk)
        have HD := Lib.hid (fun k => (show hoB l cs i k = holdsB (edA (stA l i).es k) cs from rfl))
        have HF := Lib.hid (fun (b : Bool) (hb : rdB l cs i = b) => (show filtR (rdB l cs) (i + 1) = if b then filtR (rdB l cs) i ++ [(i : Int)] else filtR (rdB l cs) i from by rw [filtR_succ, hb]))
        have hfl := filtR_le (f := rdB l cs) (n := i)
        clear h2
        generalize hoB l cs i = ho at *
        generalize (cs.getD i 0) = z at *
        generalize hz : (z == -1) = zb at *
        generalize stA l i = x at *
        go_wp2
        go_loopg [9, 10] x.es.length (fun g3 s9 s10 wz => ∃ k : Nat, k + g3 = x.es.length ∧ s10 = .int .i64 k ∧ s9 = .bool (zb && allR ho k) ∧ Below wo.heap.size wo wz)
        case atStart => exact ⟨0, by omega, rfl, by cases zb <;> rfl, Below.refl _ _⟩
        case round =>
          obtain ⟨k, hkg, rfl, rfl, hb4⟩ := hrel
          have row4 := own_next hrow hb4
          have low4 := hb4.size
          have G4 := Lib.hid (G.out.next hb4 (by rw [block_add]; exact h1))
          have c4 := G4.out.c4
          cases gk with
          | zero =>
            have hkm : ¬ ((k : Int) < (x.es.length : Int)) := by omega
            have HH2 := Lib.hid (show rdB l cs i = (zb && allR ho k) from by rw [HH.out, (show k = x.es.length from by omega)])
            generalize (zb && allR ho k) = b at *
            have HE := Lib.hid (HF.out b HH2.out)
            generalize filtR (rdB l cs) i = q at *
            cases b
            · go_wp2
              go_roundg g
              case measure => omega
              case rel => exact ⟨i + 1, by omega, by go_num, by rw [HE.out]; exact row4, bmore hb hb4⟩
            · go_wp2_with (at_builtin; refine wpList_append_own _ rfl _ _ 28 rfl w.heap.size 3 ti (.int .i64 0) 1 8 Try.underlying28 hi hz0 hz1 hz2 rfl (by decide) _ _ _ rfl (row4.alloc _) ⟨wr.heap.size, 0, none⟩ 1 1 [.int .i64 i] rfl rfl (cell_one_new _ _ _) (by simp [Value.oneCell']) (by unfold maxLen; omega) (by omega) (by simp; omega) ?_; intro v6 w6 hown6 hgrow6 _; obtain ⟨g6, cap6, rfl⟩ := ownsRow_succ hown6; have hb6 := appended_below row4 (by omega) hgrow6)
              go_roundg g
              case measure => omega
              case rel =>
                refine ⟨i + 1, by omega, by go_num, ?_, (bmore hb hb4).trans hb6⟩
                rw [HE.out]
                simp only [if_true]
                rw [iv_snoc, List.length_append]
                exact hown6
          | succ g3 =>
            have j0 : (0 : Int) ≤ (k : Int) := by omega
            have j1 : (k : Int) < (x.es.length : Int) := by omega
            obtain ⟨ad3, hB, hh, e0, e1⟩ := G4.out.eds.at_ (k := k) (by omega)
            subst hB
            obtain ⟨j, hj, hjl⟩ := HO.out k (by omega)
            rw [H.out.len] at hjl
            have K2 := Lib.hid (rholds_any (some ad2) m cc cs j (edA x.es k).k wr (HC.out.ints.next (bmore hb hb4)) HC.out.len hjl (HKd.out k (by omega)) (hrg.out j (by rw [HC.out.len]; exact hjl)))
            have hho : ho k = hB (edA x.es k).k (cs.getD j 0) := (HD.out k).trans (holds_hB hj)
            rw [← hho] at K2
            clear hho
            have HS := Lib.hid (show (zb && allR ho (k + 1)) = ((zb && allR ho k) && ho k) from by
              show (zb && (allR _ k && ho k)) = _
              rw [Bool.and_assoc])
            rw [hj] at e0
            clear hj
            generalize (edA x.es k).k = kk at *
            generalize ho k = b2 at *
            generalize (zb && allR ho k) = b at *
            cases b
            · go_wp2
              go_roundg g3
              case measure => omega
              case rel => exact ⟨k + 1, by omega, by go_num, by rw [HS.out]; rfl, hb4⟩
            · go_wp2_with (go_at_call 50; (with_reducible refine K2.out.mono ?_); rintro y w5 ⟨rfl, hb5⟩)
              go_roundg g3
              case measure => omega
              case rel => exact ⟨k + 1, by omega, by go_num, by rw [HS.out]; rfl, bmore hb4 hb5⟩
  · have hT := Lib.hid (show rdyL l cs = [] from by unfold rdyL; rw [if_neg hk])
    have hc' : (ckB l cs == 0) = false := by simpa using hk
    have hc2 : (ckB l cs != 0) = true := by unfold bne; rw [hc']; rfl
    rw [hT.out]
    generalize ckB l cs = c at *
    clear hk
    go_enter Try.func23, Try.ntmps23
    go_wp2_with (go_at_call 49; (with_reducible refine K1.out.mono ?_); rintro y w1 ⟨rfl, hb1⟩)
    go_ret2
    exact ⟨_, rfl, World.ownsRow_nil _ _ _ _, hb1⟩
set_option maxRecDepth 100000 in
set_option maxHeartbeats 4000000 in
theorem doomed_any (A C : Option Addr) (n cap cc : Nat) (l : List St) (F : List Int) (i : Nat) (w : World) (h : Sl w A n cap l) (hC : Il w C n F) (hm : mayB l = true) (hi : i < n) (hF : ∀ j, j < n → -1 ≤ F.getD j 0 ∧ F.getD j 0 ≤ 256) :
    Calls Try.prog 53 #[.slice A n cap, .slice C n cc, .int .i64 i] w fun e w' => e = .returned (.bool (doomB l F i)) ∧ Below w.heap.size w w' := by
  have HD := Lib.hid (show doomB l F i = (F.getD i 0 == -1 && !allR (nfB l F i) (stA l i).es.length) from rfl)
  have HO := Lib.hid (fun k (hk : k < (stA l i).es.length) => may_edge hm (i := i) (by rw [h.len]; exact hi) hk)
  have HKd := Lib.hid (fun k (hk : k < (stA l i).es.length) => may_kind hm (i := i) (by rw [h.len]; exact hi) hk)
  have HN := Lib.hid (fun k => (show nfB l F i k = !failsB (edA (stA l i).es k) F from rfl))
  have hrg := Lib.hid hF
  have H := Lib.hid h
  have HC := Lib.hid hC
  obtain ⟨ad, B, c, rfl, h1, h2⟩ := h.sts.at_ (i := i) (by rw [h.len]; exact hi)
  obtain ⟨ad2, rfl, h3, h4⟩ := hC.ints.at_ (k := i) (by rw [hC.len]; exact hi)
  have G := Lib.hid h2
  have HX := Lib.hid h4
  have lm := h2.lm
  unfold maxLen at lm
  have i0 : (0 : Int) ≤ (i : Int) := by omega
  have i1 : (i : Int) < (n : Int) := by omega
  clear h2 h4 h hC hF
  generalize doomB l F i = db at *
  generalize nfB l F i = nf at *
  generalize hz0 : F.getD i 0 = z at *
  clear hz0
  generalize stA l i = x at *
  go_enter Try.func53, Try.ntmps53
  go_wp2
  go_loopg [7] x.es.length (fun g s7 wr => ∃ k : Nat, k + g = x.es.length ∧ s7 = .int .i64 k ∧ Hid ((z == -1) = true → allR nf k = true) ∧ Below w.heap.size w wr)
  case atStart => exact ⟨0, by omega, rfl, Lib.hid fun _ => rfl, Below.refl _ _⟩
  case round =>
    obtain ⟨k, hkg, rfl, HR, hb⟩ := hrel
    have G4 := Lib.hid (G.out.next hb (by rw [block_add]; exact h1))
    have c4 := G4.out.c4
    cases gk with
    | zero =>
      have hlt : ¬ ((k : Int) < (x.es.length : Int)) := by omega
      have hT := Lib.hid (show db = false from by
        rw [HD.out, ← (show k = x.es.length from by omega)]
        cases hz : (z == -1)
        · rfl
        · rw [HR.out hz]; rfl)
      go_wp2
      go_ret
      exact ⟨by rw [hT.out]; rfl, hb⟩
    | succ g =>
      have j0 : (0 : Int) ≤ (k : Int) := by omega
      have j1 : (k : Int) < (x.es.length : Int) := by omega
      obtain ⟨ad3, hB, hh, e0, e1⟩ := G4.out.eds.at_ (k := k) (by omega)
      subst hB
      obtain ⟨j, hj, hjl⟩ := HO.out k (by omega)
      rw [H.out.len] at hjl
      have hbn := Lib.hid (fun ob => below_alloc wr ob)
      have x4 := (hb.cell (p := ad2.add i) (by rw [block_add]; exact h3)).trans HX.out
      have x5 := ((hbn.out (.cells #[.int .i64 (edA x.es k).s, .int .i64 (edA x.es k).k] 40)).cell (p := ad2.add i) (by rw [block_add]; exact Nat.lt_of_lt_of_le h3 hb.size)).trans x4
      have y5 := ((HC.out.ints.next (bmore hb (hbn.out (.cells #[.int .i64 (edA x.es k).s, .int .i64 (edA x.es k).k] 40)))).cellAt (k := j) (by rw [HC.out.len]; exact hjl)).1
      have K2 := Lib.hid (rholds_any (some ad2) n cc F j (edA x.es k).k (wr.alloc (.cells #[.int .i64 (edA x.es k).s, .int .i64 (edA x.es k).k] 40)) (HC.out.ints.next (bmore hb (hbn.out _))) HC.out.len hjl (HKd.out k (by omega)) (hrg.out j hjl))
      have hnf := Lib.hid (show nf k = !(!(F.getD j 0 == -1) && !hB (edA x.es k).k (F.getD j 0)) from by rw [HN.out, fails_fB hj]; rfl)
      have HS := Lib.hid (show (z == -1) = true → allR nf (k + 1) = nf k from fun e => by show (allR _ k && _) = _; rw [HR.out e]; rfl)
      have HE := Lib.hid (show (z == -1) = true → nf k = false → db = true from fun e1 e2 => by rw [HD.out, e1, allR_no (f := nf) (i := k) (by omega) e2]; rfl)
      have p0 : (0 : Int) ≤ (j : Int) := by omega
      have p1 : (j : Int) < (n : Int) := by omega
      rw [hj] at e0 x5 y5 K2
      clear hj x4
      generalize (edA x.es k).k = kk at *
      generalize hB kk (F.getD j 0) = hh at *
      generalize F.getD j 0 = y at *
      by_cases hz : z = -1
      · subst hz
        by_cases hy : y = -1
        · subst hy
          have hnk := Lib.hid (show allR nf (k + 1) = true from (HS.out rfl).trans (by rw [hnf.out]; rfl))
          go_wp2
          go_roundg g
          case measure => omega
          case rel => exact ⟨k + 1, by omega, by go_num, Lib.hid (fun _ => hnk.out), bmore hb (hbn.out _)⟩
        · have hy2 : (y == -1) = false := by simpa using hy
          have hy3 : (y != -1) = true := by unfold bne; rw [hy2]; rfl
          rw [hy2] at hnf
          clear hy
          cases hh
          · have hT := Lib.hid (HE.out rfl (by rw [hnf.out]; rfl))
            go_wp2_with (go_at_call 50; (with_reducible refine K2.out.mono ?_); rintro y w5 ⟨rfl, hb5⟩)
            go_ret
            exact ⟨by rw [hT.out]; rfl, bmore hb (bmore (hbn.out _) hb5)⟩
          · have hnk := Lib.hid (show allR nf (k + 1) = true from (HS.out rfl).trans (by rw [hnf.out]; rfl))
            go_wp2_with (go_at_call 50; (with_reducible refine K2.out.mono ?_); rintro y w5 ⟨rfl, hb5⟩)
            go_roundg g
            case measure => omega
            case rel => exact ⟨k + 1, by omega, by go_num, Lib.hid (fun _ => hnk.out), bmore hb (bmore (hbn.out _) hb5)⟩
      · have hz2 : (z == -1) = false := by simpa using hz
        go_wp2
        go_roundg g
        case measure => omega
        case rel => exact ⟨k + 1, by omega, by go_num, Lib.hid (fun e => by rw [hz2] at e; cases e), bmore hb (hbn.out _)⟩
end Go.Proofs.Ytodgkjmkjahkiaa
