/- The document's dag: Check, Order, with. -/
import Derived.Test.YtodgkjmkjahkiaaR2
namespace Go.Proofs.Ytodgkjmkjahkiaa
open Go.RowKit

set_option maxRecDepth 100000 in
set_option maxHeartbeats 4000000 in
theorem rcheck_any (A : Option Addr) (n cap : Nat) (l : List St) (w : World) (h : Sl w A n cap l) :
    Calls Try.prog 18 #[.slice A n cap] w fun e w' => e = .returned (.int .i64 (checkB l)) ∧ Below w.heap.size w w' := by
  have hd := Lib.hid (show checkB l = if mayB l then if (placesB l).length < l.length then 15 else 0 else 1 from rfl)
  have hmy := Lib.hid (show mayB l = (isW n 1 16 && allR (okB l) n) from by rw [← h.len]; rfl)
  have HO := Lib.hid (fun V (hb : Below w.heap.size w V) (hm : mayB l = true) => rorder_any A n cap l V (h.next hb) hm)
  have hmost := h.most
  unfold maxLen at hmost
  have H := Lib.hid h
  clear h
  by_cases g1 : n < 1
  · have g1' : (n : Int) < 1 := by omega
    have hT := Lib.hid (show checkB l = 1 from by
      have e : isW n 1 16 = false := by rw [← Bool.not_eq_true, isW_iff]; omega
      rw [hd.out, hmy.out, e]; rfl)
    go_enter Try.func18, Try.ntmps18
    go_wp2
    go_ret
    exact ⟨by rw [hT.out]; rfl, Below.refl _ _⟩
  · have g1' : ¬ ((n : Int) < 1) := by omega
    by_cases g2 : n > 16
    · have g2' : (n : Int) > 16 := by omega
      have hT := Lib.hid (show checkB l = 1 from by
        have e : isW n 1 16 = false := by rw [← Bool.not_eq_true, isW_iff]; omega
        rw [hd.out, hmy.out, e]; rfl)
      go_enter Try.func18, Try.ntmps18
      go_wp2
      go_ret
      exact ⟨by rw [hT.out]; rfl, Below.refl _ _⟩
    · have g2' : ¬ ((n : Int) > 16) := by omega
      have hmy2 := Lib.hid (show mayB l = allR (okB l) n from by
        have e : isW n 1 16 = true := isW_iff.2 ⟨by omega, by omega⟩
        rw [hmy.out, e]; rfl)
      go_enter Try.func18, Try.ntmps18
      go_wp2
      go_loopg [3] n (fun g s3 wr => ∃ i : Nat, i + g = n ∧ s3 = .int .i64 i ∧ Hid (allR (okB l) i = true) ∧ Below w.heap.size w wr)
      case atStart => exact ⟨0, by omega, rfl, Lib.hid rfl, Below.refl _ _⟩
      case round =>
        obtain ⟨i, hig, rfl, HR, hb⟩ := hrel
        cases gk with
        | zero =>
          have hlt : ¬ ((i : Int) < (n : Int)) := by omega
          have hmt := Lib.hid (show mayB l = true from by rw [hmy2.out, ← (show i = n from by omega), HR.out])
          have hz := (Good.places l).le
          rw [H.out.len] at hz
          have hT := Lib.hid (show checkB l = if (placesB l).length < n then 15 else 0 from by rw [hd.out, hmt.out, H.out.len]; rfl)
          have K := Lib.hid (HO.out wr hb hmt.out)
          generalize placesB l = p at *
          by_cases hp : p.length < n
          · have hp' : (p.length : Int) < (n : Int) := by omega
            go_wp2_with (go_at_call 46; (with_reducible refine K.out.mono ?_); rintro y w2 ⟨v, rfl, hrow, hb2⟩; obtain ⟨A1, cap1, rfl⟩ := own_form hrow)
            go_ret
            exact ⟨by rw [hT.out, if_pos hp]; rfl, bmore hb hb2⟩
          · have hp' : ¬ ((p.length : Int) < (n : Int)) := by omega
            go_wp2_with (go_at_call 46; (with_reducible refine K.out.mono ?_); rintro y w2 ⟨v, rfl, hrow, hb2⟩; obtain ⟨A1, cap1, rfl⟩ := own_form hrow)
            go_ret
            exact ⟨by rw [hT.out, if_neg hp]; rfl, bmore hb hb2⟩
        | succ g =>
          have i0 : (0 : Int) ≤ (i : Int) := by omega
          have i1 : (i : Int) < (n : Int) := by omega
          obtain ⟨ad, B, c, rfl, h1, h2⟩ := (H.out.sts.next hb).at_ (i := i) (by rw [H.out.len]; omega)
          obtain ⟨c0, c1, c2, c3, c4, lm, lc, eds⟩ := h2
          have K := Lib.hid (step_any (stA l i) B c i n wr eds lm)
          have hst := Lib.hid (show stepB (stA l i) i n = okB l i from by unfold stepB okB; rw [H.out.len])
          rw [hst.out] at K
          have hS := Lib.hid (show allR (okB l) (i + 1) = okB l i from by show (allR _ i && _) = _; rw [HR.out]; rfl)
          have hF := Lib.hid (show okB l i = false → checkB l = 1 from fun e => by rw [hd.out, hmy2.out, allR_no (f := okB l) (i := i) (by omega) e]; rfl)
          clear hst eds
          generalize okB l i = b at *
          generalize stA l i = x at *
          cases b
          · have hT := Lib.hid (hF.out rfl)
            go_wp2_with (go_at_call 45; (with_reducible refine K.out.mono ?_); rintro y w2 ⟨rfl, hb2⟩)
            go_ret
            exact ⟨by rw [hT.out]; rfl, bmore hb hb2⟩
          · go_wp2_with (go_at_call 45; (with_reducible refine K.out.mono ?_); rintro y w2 ⟨rfl, hb2⟩)
            go_roundg g
            case measure => omega
            case rel => exact ⟨i + 1, by omega, by go_num, hS, bmore hb hb2⟩
set_option maxRecDepth 100000 in
set_option maxHeartbeats 1000000 in
theorem rorder2_any (A : Option Addr) (n cap : Nat) (l : List St) (w : World) (h : Sl w A n cap l) : Calls Try.prog 21 #[.slice A n cap] w (Gives w (orderB l)) := by
  have K1 := Lib.hid (rcheck_any A n cap l w h)
  have H := Lib.hid h
  clear h
  by_cases hc : checkB l = 0
  · have hT := Lib.hid (show orderB l = placesB l from by unfold orderB; rw [if_pos hc])
    have K2 := Lib.hid (fun V (hb : Below w.heap.size w V) => rorder_any A n cap l V (H.out.next hb) (check_ok hc).1)
    rw [hc] at K1
    clear hc
    go_enter Try.func21, Try.ntmps21
    go_wp2_with (first
      | (go_at_call 18; (with_reducible refine K1.out.mono ?_); rintro y w1 ⟨rfl, hb1⟩)
      | (go_at_call 46; (with_reducible refine (K2.out _ hb1).mono ?_); rintro y w2 ⟨v, rfl, hrow, hb2⟩))
    go_ret
    refine ⟨_, rfl, ?_, bmore hb1 hb2⟩
    rw [hT.out]
    exact Joins.ownsRow_le hrow hb1.size
  · have hT := Lib.hid (show orderB l = [] from by unfold orderB; rw [if_neg hc])
    have hc' : (checkB l == 0) = false := by simpa using hc
    have hc2 : (checkB l != 0) = true := by unfold bne; rw [hc']; rfl
    generalize checkB l = c at *
    clear hc
    go_enter Try.func21, Try.ntmps21
    go_wp2_with (go_at_call 18; (with_reducible refine K1.out.mono ?_); rintro y w1 ⟨rfl, hb1⟩)
    go_ret
    refine ⟨_, rfl, ?_, hb1⟩
    rw [hT.out]
    exact World.ownsRow_nil _ _ _ _
set_option maxRecDepth 100000 in
set_option maxHeartbeats 2000000 in
theorem rck_any (A C : Option Addr) (n cap m cc : Nat) (l : List St) (cs : List Int) (w : World) (h : Sl w A n cap l) (hC : Il w C m cs) :
    Calls Try.prog 49 #[.slice A n cap, .slice C m cc] w fun e w' => e = .returned (.int .i64 (ckB l cs)) ∧ Below w.heap.size w w' := by
  have K1 := Lib.hid (rcheck_any A n cap l w h)
  have hd := Lib.hid (show ckB l cs = if checkB l = 0 then (if cs.length = l.length then (if allR (wiB cs) cs.length then 0 else 5) else 5) else checkB l from rfl)
  rw [h.len, hC.len] at hd
  have H := Lib.hid hC
  have hmm := hC.most
  unfold maxLen at hmm
  clear h hC
  by_cases hc : checkB l = 0
  · rw [hc] at K1 hd
    clear hc
    by_cases hl : m = n
    · subst hl
      have hmm' : ((m : Int) != m) = false := by simp
      rw [if_pos rfl, if_pos rfl] at hd
      go_enter Try.func49, Try.ntmps49
      go_wp2_with (go_at_call 18; (with_reducible refine K1.out.mono ?_); rintro y w1 ⟨rfl, hb1⟩)
      go_loopg [6] m (fun g s6 wr => ∃ k : Nat, k + g = m ∧ s6 = .int .i64 k ∧ wr = w1 ∧ Hid (allR (wiB cs) k = true))
      case atStart => exact ⟨0, by omega, rfl, rfl, Lib.hid rfl⟩
      case round =>
        obtain ⟨k, hkg, rfl, rfl, hall⟩ := hrel
        cases gk with
        | zero =>
          have hlt : ¬ ((k : Int) < (m : Int)) := by omega
          have hT := Lib.hid (show ckB l cs = 0 from by rw [hd.out, ← (show k = m from by omega), hall.out]; rfl)
          go_wp2
          go_ret
          exact ⟨by rw [hT.out]; rfl, hb1⟩
        | succ g =>
          obtain ⟨ad, rfl, h1, h2⟩ := (H.out.ints.next hb1).at_ (k := k) (by rw [H.out.len]; omega)
          have i0 : (0 : Int) ≤ (k : Int) := by omega
          have i1 : (k : Int) < (m : Int) := by omega
          have hw := Lib.hid (show allR (wiB cs) (k + 1) = isW (cs.getD k 0) (-1) 256 from by show (allR _ k && _) = _; rw [hall.out]; rfl)
          have hf := Lib.hid (show isW (cs.getD k 0) (-1) 256 = false → ckB l cs = 5 from fun e => by rw [hd.out, allR_no (f := wiB cs) (i := k) (by omega) e]; rfl)
          generalize cs.getD k 0 = z at *
          by_cases z1 : z < -1
          · have hT := Lib.hid (hf.out (by rw [← Bool.not_eq_true, isW_iff]; omega))
            go_wp2
            go_ret
            exact ⟨by rw [hT.out]; rfl, hb1⟩
          · by_cases z2 : z > 256
            · have hT := Lib.hid (hf.out (by rw [← Bool.not_eq_true, isW_iff]; omega))
              go_wp2
              go_ret
              exact ⟨by rw [hT.out]; rfl, hb1⟩
            · have hN := Lib.hid (hw.out.trans (isW_iff.2 ⟨by omega, by omega⟩))
              go_wp2
              go_roundg g
              case measure => omega
              case rel => exact ⟨k + 1, by omega, by go_num, rfl, hN⟩
    · have hT := Lib.hid (show ckB l cs = 5 from by rw [hd.out, if_pos rfl, if_neg hl])
      have hl2 : ((m : Int) != (n : Int)) = true := by simp; omega
      have hl3 : ((m : Int) == (n : Int)) = false := by simp; omega
      go_enter Try.func49, Try.ntmps49
      go_wp2_with (go_at_call 18; (with_reducible refine K1.out.mono ?_); rintro y w1 ⟨rfl, hb1⟩)
      go_ret
      exact ⟨by rw [hT.out]; rfl, hb1⟩
  · have hT := Lib.hid (show ckB l cs = checkB l from by rw [hd.out, if_neg hc])
    have hc' : (checkB l == 0) = false := by simpa using hc
    have hc2 : (checkB l != 0) = true := by unfold bne; rw [hc']; rfl
    clear hd
    generalize checkB l = c at *
    clear hc
    go_enter Try.func49, Try.ntmps49
    go_wp2_with (go_at_call 18; (with_reducible refine K1.out.mono ?_); rintro y w1 ⟨rfl, hb1⟩)
    go_ret
    exact ⟨by rw [hT.out]; rfl, hb1⟩
set_option maxRecDepth 100000 in
set_option maxHeartbeats 2000000 in
theorem tells_pre (A : Option Addr) (n cap : Nat) (l : List St) (w : World) (h : Sl w A n cap l) (hs : smallB l = true) : Calls Try.prog 3 #[.slice A n cap] w fun e w' => e = .returned (.bool true) ∧ Below w.heap.size w w' := by
  have KL := Lib.hid live_any
  have K1 := Lib.hid (small_any A n cap l w h.sts h.len h.most)
  rw [hs] at K1
  have K2 := Lib.hid (check_any A n cap l w h)
  have K3 := Lib.hid (fun V (hb : Below w.heap.size w V) => rcheck_any A n cap l V (h.next hb))
  have K4 := Lib.hid (fun V (hb : Below w.heap.size w V) => order_any A n cap l V (h.next hb))
  have K5 := Lib.hid (fun V (hb : Below w.heap.size w V) => rorder2_any A n cap l V (h.next hb))
  have hn : (orderB l).length ≤ n := by
    unfold orderB
    have := (Good.places l).le
    rw [h.len] at this
    split
    · exact this
    · exact Nat.zero_le _
  have hmost := h.most
  have hcc : (checkB l == checkB l) = true := by simp
  generalize checkB l = c at *
  generalize orderB l = o at *
  clear h
  go_enter Try.func3, Try.ntmps3
  go_wp2_with (first
    | (go_at_call 15; (with_reducible refine K1.out.mono ?_); rintro y w ⟨rfl, rfl⟩)
    | (go_at_call 17; (with_reducible refine K2.out.mono ?_); rintro y w1 ⟨rfl, hb1⟩)
    | (go_at_call 18; (with_reducible refine (K3.out _ hb1).mono ?_); rintro y w2 ⟨rfl, hb2⟩)
    | (go_at_call 20; (with_reducible refine (K4.out _ (bmore hb1 hb2)).mono ?_); rintro y w3 ⟨v3, rfl, row3, hb3⟩; obtain ⟨A3, c3, rfl⟩ := own_form row3; have I3 := Lib.hid (ints_iv rfl row3))
    | (go_at_call 21; (with_reducible refine (K5.out _ (bmore (bmore hb1 hb2) hb3)).mono ?_); rintro y w4 ⟨v4, rfl, row4, hb4⟩; obtain ⟨A4, c4, rfl⟩ := own_form row4; have I4 := Lib.hid (ints_iv rfl row4))
    | (go_at_call 19; refine (same_eq A3 A4 c3 c4 o.length o _ (I3.out.next hb4) I4.out rfl (by unfold maxLen at *; omega)).mono ?_; rintro y w5 ⟨rfl, hb5⟩)
    | (go_at_call 16; (with_reducible refine (KL.out _).mono ?_); rintro y w6 ⟨rfl, hb6⟩))
  go_ret
  exact ⟨by first | rfl | simp_all, bmore (bmore (bmore (bmore (bmore hb1 hb2) hb3) hb4) hb5) hb6⟩
set_option maxRecDepth 100000 in
set_option maxHeartbeats 2000000 in
theorem tells_law (A : Option Addr) (n cap : Nat) (l : List St) (w : World) (h : Sl w A n cap l) : Calls Try.prog 3 #[.slice A n cap] w fun e w' => e = .returned (.bool true) ∧ Below w.heap.size w w' := by
  cases hs : smallB l
  · have KL := Lib.hid live_any
    have K1 := Lib.hid (small_any A n cap l w h.sts h.len h.most)
    rw [hs] at K1
    go_enter Try.func3, Try.ntmps3
    go_wp2_with (first
      | (go_at_call 15; (with_reducible refine K1.out.mono ?_); rintro y w ⟨rfl, rfl⟩)
      | (go_at_call 16; (with_reducible refine (KL.out _).mono ?_); rintro y w1 ⟨rfl, hb1⟩))
    go_ret
    exact ⟨rfl, hb1⟩
  · exact tells_pre A n cap l w h hs
end Go.Proofs.Ytodgkjmkjahkiaa
