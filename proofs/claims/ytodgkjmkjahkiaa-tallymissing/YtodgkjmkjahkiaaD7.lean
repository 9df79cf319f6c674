/- dag: Ready. -/
import Derived.Test.YtodgkjmkjahkiaaD6
namespace Go.Proofs.Ytodgkjmkjahkiaa
open Go.RowKit

theorem ck_ok {l : List St} {cs : List Int} (h : ckB l cs = 0) : checkB l = 0 ∧ cs.length = l.length ∧ allR (wiB cs) cs.length = true := by
  have hd : ckB l cs = if checkB l = 0 then (if cs.length = l.length then (if allR (wiB cs) cs.length then 0 else 5) else 5) else checkB l := rfl
  rw [hd] at h
  split at h
  · rename_i h1
    split at h
    · rename_i h2
      split at h
      · rename_i h3
        exact ⟨h1, h2, h3⟩
      · cases h
    · cases h
  · contradiction
def rdyL (l : List St) (cs : List Int) : List Int := if ckB l cs = 0 then readyB l cs else []
/-- A slice of its own that holds these numbers, and what is wrong. -/
def Gives2 (w : World) (zs : List Int) (er : Int) (e : Ending) (w' : World) : Prop := ∃ v, e = .returned (.tuple #[v, .int .i64 er]) ∧ w'.ownsRow w.heap.size 3 1 v zs.length (iv zs) ∧ Below w.heap.size w w'
def hoB (l : List St) (cs : List Int) (i k : Nat) : Bool := holdsB (edA (stA l i).es k) cs
theorem filtR_succ {f : Nat → Bool} {n : Nat} : filtR f (n + 1) = if f n then filtR f n ++ [(n : Int)] else filtR f n := rfl
set_option maxRecDepth 100000 in
set_option maxHeartbeats 2000000 in
theorem ready_any (A C : Option Addr) (n cap m cc : Nat) (l : List St) (cs : List Int) (w : World) (h : Sl w A n cap l) (hC : Il w C m cs) :
    Calls Try.prog 22 #[.slice A n cap, .slice C m cc] w (Gives2 w (rdyL l cs) (ckB l cs)) := by
  obtain ⟨ti, hi, hz0, hz1, hz2⟩ := info_parts info3
  have K1 := Lib.hid (ck_any A C n cap m cc l cs w h hC)
  by_cases hk : ckB l cs = 0
  · have hok := ck_ok hk
    have hmay := Lib.hid (check_ok hok.1).1
    have h16 := (may_len hmay.out).2
    rw [h.len] at h16
    obtain rfl : m = n := by rw [← hC.len, ← h.len, hok.2.1]
    have HR := Lib.hid (show rdyL l cs = filtR (rdB l cs) m from by unfold rdyL readyB; rw [if_pos hk, h.len])
    have H := Lib.hid h
    have HC := Lib.hid hC
    rw [hk] at K1 ⊢
    clear hk hok h hC
    go_enter Try.func22, Try.ntmps22
    go_wp2
    go_step3
    go_wp2_with (go_at_call 47; (with_reducible refine K1.out.mono ?_); rintro y w1 ⟨rfl, hb1⟩)
    go_step3
    go_wp2
    go_loopg [7, 20] m (fun g s7 s20 wr => ∃ i : Nat, i + g = m ∧ s20 = .int .i64 i ∧ wr.ownsRow w.heap.size 3 1 s7 (filtR (rdB l cs) i).length (iv (filtR (rdB l cs) i)) ∧ Below w.heap.size w wr)
    case atStart => exact ⟨0, by omega, rfl, World.ownsRow_nil _ _ _ _, hb1⟩
    case round =>
      obtain ⟨i, hig, rfl, hrow, hb⟩ := hrel
      obtain ⟨wo, hwo⟩ : ∃ x, x = wr := ⟨_, rfl⟩
      subst hwo
      obtain ⟨A1, cap1, rfl⟩ := own_form hrow
      have hsz := hb.size
      cases gk with
      | zero =>
        obtain rfl : i = m := by omega
        have hlt : ¬ ((i : Int) < (i : Int)) := by omega
        go_wp2
        try rw [Exit.noGoto_ret]
        go_ret2
        refine ⟨_, rfl, ?_, hb⟩
        rw [HR.out]
        exact hrow
      | succ g =>
        have i0 : (0 : Int) ≤ (i : Int) := by omega
        have i1 : (i : Int) < (m : Int) := by omega
        have him := Lib.hid (show i < l.length from by rw [H.out.len]; omega)
        obtain ⟨ad, B, c, rfl, h1, h2⟩ := (H.out.sts.next hb).at_ (i := i) him.out
        obtain ⟨c0, c1, c2, c3, c4, lm, lc, eds⟩ := h2
        unfold maxLen at lm
        have hbn := Lib.hid (fun ob => below_alloc wo ob)
        obtain ⟨ad2, rfl, h3, h4⟩ := ((HC.out.ints.next hb).next (hbn.out (.cells #[.int .i64 (stA l i).r, .int .i64 (stA l i).p, .int .i64 (stA l i).d, .int .i64 (stA l i).m, .slice B (stA l i).es.length c] 38))).at_ (k := i) (by rw [HC.out.len]; omega)
        have HH := Lib.hid (show rdB l cs i = (cs.getD i 0 == -1 && allR (hoB l cs i) (stA l i).es.length) from rfl)
        have HO := Lib.hid (fun k (hk : k < (stA l i).es.length) => may_edge hmay.out him.out hk)
        have HD := Lib.hid (fun k => (show hoB l cs i k = holdsB (edA (stA l i).es k) cs from rfl))
        have HF := Lib.hid (fun (b : Bool) (hb : rdB l cs i = b) => (show filtR (rdB l cs) (i + 1) = if b then filtR (rdB l cs) i ++ [(i : Int)] else filtR (rdB l cs) i from by rw [filtR_succ, hb]))
        have hfl := filtR_le (f := rdB l cs) (n := i)
        generalize hoB l cs i = ho at *
        generalize cs.getD i 0 = z at *
        generalize stA l i = x at *
        by_cases hz : z = -1
        · subst hz
          go_wp2
          go_loopg [33] x.es.length (fun g3 s33 wz => ∃ k : Nat, k + g3 = x.es.length ∧ s33 = .int .i64 k ∧ Hid (allR ho k = true) ∧ Below wo.heap.size wo wz)
          case atStart => exact ⟨0, by omega, rfl, Lib.hid rfl, hbn.out _⟩
          case round =>
            obtain ⟨k, hkg, rfl, HK, hb4⟩ := hrel
            have row4 := own_next hrow hb4
            have low4 := hb4.size
            cases gk with
            | zero =>
              have hkm : ¬ ((k : Int) < (x.es.length : Int)) := by omega
              have HE := Lib.hid (HF.out true (by rw [HH.out, ← (show k = x.es.length from by omega), HK.out]; rfl))
              generalize filtR (rdB l cs) i = q at *
              go_wp2_with (at_builtin; refine wpList_append_own _ rfl _ _ 28 rfl w.heap.size 3 ti (.int .i64 0) 1 8 Try.underlying28 hi hz0 hz1 hz2 rfl (by decide) _ _ _ rfl (row4.alloc _) ⟨wr.heap.size, 0, none⟩ 1 1 [.int .i64 i] rfl rfl (cell_one_new _ _ _) (by simp [Value.oneCell']) (by unfold maxLen; omega) (by omega) (by simp; omega) ?_; intro v6 w6 hown6 hgrow6 _; obtain ⟨g6, cap6, rfl⟩ := ownsRow_succ hown6; have hb6 := appended_below row4 (by omega) hgrow6)
              go_roundg g
              case measure => omega
              case rel =>
                refine ⟨i + 1, by omega, by go_num, ?_, (bmore hb hb4).trans hb6⟩
                rw [HE.out]
                simp only [if_true]
                rw [iv_snoc, List.length_append]
                exact hown6
            | succ g3 =>
              have j0 : (0 : Int) ≤ (k : Int) := by omega
              have j1 : (k : Int) < (x.es.length : Int) := by omega
              obtain ⟨ad3, rfl, hh, e0, e1⟩ := (eds.next hb4).at_ (k := k) (by omega)
              obtain ⟨j, hj, hjl⟩ := HO.out k (by omega)
              rw [H.out.len] at hjl
              have hbn4 := Lib.hid (fun ob => bmore hb4 (below_alloc wr ob))
              have hbz := Lib.hid (fun V (h : Below wo.heap.size wo V) => bmore hb h)
              have K2 := Lib.hid (fun V (h : Below wo.heap.size wo V) => holds_any (some ad2) m cc cs j (edA x.es k).k V (HC.out.ints.next (hbz.out V h)) HC.out.len HC.out.most hjl)
              have hho : ho k = hB (edA x.es k).k (cs.getD j 0) := (HD.out k).trans (holds_hB hj)
              rw [← hho] at K2
              clear hho
              have HS := Lib.hid (show allR ho (k + 1) = ho k from by show (allR _ k && _) = _; rw [HK.out]; rfl)
              have HE := Lib.hid (show ho k = false → filtR (rdB l cs) (i + 1) = filtR (rdB l cs) i from fun e => HF.out false (by rw [HH.out, allR_no (f := ho) (i := k) (by omega) e]; rfl))
              rw [hj] at e0
              clear hj
              generalize (edA x.es k).k = kk at *
              generalize ho k = b at *
              cases b
              · have hE := Lib.hid (HE.out rfl)
                go_wp2_with (go_at_call 48; (with_reducible refine (K2.out _ (hbn4.out _)).mono ?_); rintro y w5 ⟨rfl, hb5⟩)
                go_roundg g
                case measure => omega
                case rel => exact ⟨i + 1, by omega, by go_num, by rw [hE.out]; exact own_next row4 (bmore (below_alloc wr _) hb5), bmore hb (bmore (hbn4.out _) hb5)⟩
              · go_wp2_with (go_at_call 48; (with_reducible refine (K2.out _ (hbn4.out _)).mono ?_); rintro y w5 ⟨rfl, hb5⟩)
                go_roundg g3
                case measure => omega
                case rel => exact ⟨k + 1, by omega, by go_num, HS, bmore (hbn4.out _) hb5⟩
        · have hz2 : (z == -1) = false := by simpa using hz
          have hz3 : (z != -1) = true := by unfold bne; rw [hz2]; rfl
          have hE := Lib.hid (show filtR (rdB l cs) (i + 1) = filtR (rdB l cs) i from HF.out false (by rw [HH.out, hz2]; rfl))
          go_wp2
          go_roundg g
          case measure => omega
          case rel => exact ⟨i + 1, by omega, by go_num, by rw [hE.out]; exact own_next hrow (hbn.out _), bmore hb (hbn.out _)⟩
  · have hT := Lib.hid (show rdyL l cs = [] from by unfold rdyL; rw [if_neg hk])
    have hc' : (ckB l cs == 0) = false := by simpa using hk
    have hc2 : (ckB l cs != 0) = true := by unfold bne; rw [hc']; rfl
    rw [hT.out]
    generalize ckB l cs = c at *
    clear hk
    go_enter Try.func22, Try.ntmps22
    go_wp2
    go_step3
    go_wp2_with (go_at_call 47; (with_reducible refine K1.out.mono ?_); rintro y w1 ⟨rfl, hb1⟩)
    try rw [Exit.noGoto_ret]
    go_ret2
    exact ⟨_, rfl, World.ownsRow_nil _ _ _ _, hb1⟩
end Go.Proofs.Ytodgkjmkjahkiaa
