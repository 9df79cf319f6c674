/- dag: places. -/
import Derived.Test.YtodgkjmkjahkiaaD3
import Derived.WalkMore
import Derived.Deep.LoopGhost
import Derived.Maps.AppendAt
import Derived.RangeFuncBox
namespace Go.Proofs.Ytodgkjmkjahkiaa
open Go.RowKit

theorem placesF_none {l : List St} {n : Nat} {o : List Int} (h : nextB l o = none) : placesF l (n + 1) o = o := by unfold placesF; rw [h]
theorem placesF_some {l : List St} {n i : Nat} {o : List Int} (h : nextB l o = some i) : placesF l (n + 1) o = placesF l n (o ++ [(i : Int)]) := by
  show (match nextB l o with | none => o | some i => placesF l n (o ++ [(i : Int)])) = _
  rw [h]
set_option maxRecDepth 100000 in
set_option maxHeartbeats 2000000 in
theorem places_any (A : Option Addr) (n cap : Nat) (l : List St) (w : World) (hA : StsAt w A l) (hn : l.length = n) (hl : n ≤ 16) :
    Calls Try.prog 44 #[.slice A n cap] w fun e w' => ∃ v, e = .returned v ∧ w'.ownsRow w.heap.size 3 1 v (placesB l).length (iv (placesB l)) ∧ Below w.heap.size w w' := by
  obtain ⟨ti, hi, hz0, hz1, hz2⟩ := info_parts info3
  have HN := Lib.hid hn
  have HA := Lib.hid hA
  clear hn hA
  go_enter Try.func44, Try.ntmps44
  go_wp2
  go_step3
  go_wp2
  go_step3
  go_wp2
  go_loopg [3] n (fun g s3 wr => ∃ o : List Int, o.length + g = n ∧ Hid (placesF l g o = placesB l) ∧ wr.ownsRow w.heap.size 3 1 s3 o.length (iv o) ∧ Below w.heap.size w wr)
  case atStart => exact ⟨[], by simp, Lib.hid (by unfold placesB; rw [HN.out]), World.ownsRow_nil _ _ _ _, Below.refl _ _⟩
  case round =>
    obtain ⟨o, hog, HP, hrow, hb⟩ := hrel
    obtain ⟨wo, hwo⟩ : ∃ x, x = wr := ⟨_, rfl⟩
    subst hwo
    obtain ⟨A1, cap1, rfl⟩ := own_form hrow
    have hsz := hb.size
    cases gk with
    | zero =>
      have hol : o.length = n := by omega
      have HE := Lib.hid (show placesB l = o from HP.out.symm)
      have hlt : ¬ ((o.length : Int) < (n : Int)) := by omega
      clear HP hog hol
      go_wp2_with fail
      go_ret
      refine ⟨_, rfl, ?_, hb⟩
      rw [HE.out]
      exact hrow
    | succ g =>
      have hol : (o.length : Int) < (n : Int) := by omega
      have hom : o.length < 16 := by omega
      go_wp2
      go_step3
      go_wp2
      go_step3
      go_wp2
      go_loopg [3, 15] n (fun g2 s3 s15 wy => ∃ i : Nat, i + g2 = n ∧ s3 = .slice A1 o.length cap1 ∧ s15 = .int .i64 i ∧ Hid (∀ j, j < i → canB l o j = false) ∧ Below wo.heap.size wo wy)
      case atStart => exact ⟨0, by omega, rfl, rfl, Lib.hid (fun j hj => absurd hj (Nat.not_lt_zero _)), Below.refl _ _⟩
      case round =>
        obtain ⟨i, hig, rfl, rfl, HJ, hb2⟩ := hrel
        have hs2 := hb2.size
        have row2 := own_next hrow hb2
        have hI := Lib.hid (ints_iv rfl row2)
        cases gk with
        | zero =>
          have hin : ¬ ((i : Int) < (n : Int)) := by omega
          have HE := Lib.hid (show placesB l = o from by
            rw [← HP.out]
            exact placesF_none (leastR_none.2 fun j hj => HJ.out j (by rw [HN.out] at hj; omega)))
          go_wp2
          rw [Exit.noGoto_ret]
          go_ret
          refine ⟨_, rfl, ?_, bmore hb hb2⟩
          rw [HE.out]
          exact row2
        | succ g2 =>
          have i0 : (0 : Int) ≤ (i : Int) := by omega
          have i1 : (i : Int) < (n : Int) := by omega
          obtain ⟨ad, B, c, rfl, h1, h2⟩ := (HA.out.next (bmore hb hb2)).at_ (i := i) (by rw [HN.out]; omega)
          obtain ⟨c0, c1, c2, c3, c4, lm, lc, eds⟩ := h2
          unfold maxLen at lm
          have K0 := Lib.hid (fun V (h : Below wr.heap.size wr V) => has_any A1 o.length cap1 o i V (hI.out.next h) rfl (by unfold maxLen; omega))
          have K1 := Lib.hid (fun V (h : Below wr.heap.size wr V) x => has_any A1 o.length cap1 o x V (hI.out.next h) rfl (by unfold maxLen; omega))
          have hbn := Lib.hid (fun ob => below_alloc wr ob)
          have HH := Lib.hid (show canB l o i = (!hasB o i && allR (fun k => hasB o (edA (stA l i).es k).s) (stA l i).es.length) from rfl)
          have HI2 := Lib.hid (show i < l.length from by rw [HN.out]; omega)
          generalize hasB o i = b1 at *
          generalize stA l i = x at *
          have hno := Lib.hid (show canB l o i = false → ∀ j, j < i + 1 → canB l o j = false from fun h0 j hj => by
            rcases Nat.lt_or_ge j i with h | h
            · exact HJ.out j h
            · obtain rfl : j = i := by omega
              exact h0)
          cases b1
          · go_wp2_with (go_at_call 54; (with_reducible refine (K0.out _ (hbn.out _)).mono ?_); rintro y w ⟨rfl, rfl⟩)
            obtain ⟨wi, hwi⟩ : ∃ x, x = wr := ⟨_, rfl⟩
            subst hwi
            go_loopg [26] x.es.length (fun g3 s26 wz => ∃ k : Nat, k + g3 = x.es.length ∧ s26 = .int .i64 k ∧ Hid (allR (fun k => hasB o (edA x.es k).s) k = true) ∧ Below wi.heap.size wi wz)
            case atStart => exact ⟨0, by omega, rfl, Lib.hid rfl, hbn.out _⟩
            case round =>
              obtain ⟨k, hkg, rfl, HK, hb4⟩ := hrel
              have row4 := own_next row2 hb4
              have low4 := hb4.size
              cases gk with
              | zero =>
                have hkm : ¬ ((k : Int) < (x.es.length : Int)) := by omega
                have HC := Lib.hid (show placesF l (g + 1) o = placesF l g (o ++ [(i : Int)]) from placesF_some (leastR_some HI2.out (by
                  rw [HH.out]
                  obtain rfl : k = x.es.length := by omega
                  rw [HK.out]; rfl) HJ.out))
                go_wp2_with (at_builtin; refine wpList_append_own _ rfl _ _ 28 rfl w.heap.size 3 ti (.int .i64 0) 1 8 Try.underlying28 hi hz0 hz1 hz2 rfl (by decide) _ _ _ rfl (row4.alloc _) ⟨wr.heap.size, 0, none⟩ 1 1 [.int .i64 i] rfl rfl (cell_one_new _ _ _) (by simp [Value.oneCell']) (by unfold maxLen; omega) (by omega) (by simp; omega) ?_; intro v6 w6 hown6 hgrow6 _; obtain ⟨g6, cap6, rfl⟩ := ownsRow_succ hown6; have hb6 := appended_below row4 (by omega) hgrow6)
                go_roundg g
                case measure => omega
                case rel =>
                  refine ⟨o ++ [(i : Int)], by simp; omega, Lib.hid (by rw [← HC.out]; exact HP.out), ?_, (bmore (bmore hb hb2) hb4).trans hb6⟩
                  rw [iv_snoc, List.length_append]
                  exact hown6
              | succ g3 =>
                have j0 : (0 : Int) ≤ (k : Int) := by omega
                have j1 : (k : Int) < (x.es.length : Int) := by omega
                obtain ⟨ad2, rfl, hh, e0, e1⟩ := (eds.next hb4).at_ (k := k) (by omega)
                have hbn4 := Lib.hid (fun ob => bmore hb4 (below_alloc wr ob))
                have HS := Lib.hid (show allR (fun k => hasB o (edA x.es k).s) (k + 1) = hasB o (edA x.es k).s from by
                  show (allR _ k && _) = _
                  rw [HK.out]; rfl)
                have HF := Lib.hid (show hasB o (edA x.es k).s = false → canB l o i = false from fun h => by
                  rw [HH.out, allR_no (f := fun k => hasB o (edA x.es k).s) (i := k) (by omega) h]; rfl)
                have K2 := Lib.hid (fun V (h : Below wi.heap.size wi V) => K1.out V h (edA x.es k).s)
                generalize hasB o (edA x.es k).s = b2 at *
                generalize edA x.es k = e at *
                cases b2
                · have hz := Lib.hid (hno.out (HF.out rfl))
                  go_wp2_with (go_at_call 54; (with_reducible refine (K2.out _ (hbn4.out _)).mono ?_); rintro y w ⟨rfl, rfl⟩)
                  go_roundg g2
                  case measure => omega
                  case rel => exact ⟨i + 1, by omega, rfl, by go_num, hz, bmore hb2 (hbn4.out _)⟩
                · go_wp2_with (go_at_call 54; (with_reducible refine (K2.out _ (hbn4.out _)).mono ?_); rintro y w ⟨rfl, rfl⟩)
                  go_roundg g3
                  case measure => omega
                  case rel => exact ⟨k + 1, by omega, by go_num, HS, hbn4.out _⟩
          · have hz := Lib.hid (hno.out (by rw [HH.out]; rfl))
            go_wp2_with (go_at_call 54; (with_reducible refine (K0.out _ (hbn.out _)).mono ?_); rintro y w ⟨rfl, rfl⟩)
            go_roundg g2
            case measure => omega
            case rel => exact ⟨i + 1, by omega, rfl, by go_num, hz, bmore hb2 (hbn.out _)⟩
end Go.Proofs.Ytodgkjmkjahkiaa
