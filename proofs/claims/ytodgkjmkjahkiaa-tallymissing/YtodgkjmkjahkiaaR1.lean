/- The document's dag: whether a step may be. -/
import Derived.Test.YtodgkjmkjahkiaaE3
namespace Go.Proofs.Ytodgkjmkjahkiaa
open Go.RowKit

def stepB (s : St) (a n : Int) : Bool := sizesB s && edgesB s.es a n
set_option maxRecDepth 100000 in
set_option maxHeartbeats 4000000 in
theorem step_any (s : St) (B : Option Addr) (c : Nat) (a n : Int) (w : World) (hE0 : EdsAt w B s.es) (hlm : s.es.length ≤ maxLen) :
    Calls Try.prog 45 #[.agg #[.int .i64 s.r, .int .i64 s.p, .int .i64 s.d, .int .i64 s.m, .slice B s.es.length c], .int .i64 a, .int .i64 n] w fun e w' => e = .returned (.bool (stepB s a n)) ∧ Below w.heap.size w w' := by
  have hlow := below_alloc w (.cells #[.int .i64 s.r, .int .i64 s.p, .int .i64 s.d, .int .i64 s.m, .slice B s.es.length c] 38)
  have KS0 := Bk.new w 38 #[.int .i64 s.r, .int .i64 s.p, .int .i64 s.d, .int .i64 s.m, .slice B s.es.length c]
  have KS := Lib.hid (fun V (h : Below (w.alloc (.cells #[.int .i64 s.r, .int .i64 s.p, .int .i64 s.d, .int .i64 s.m, .slice B s.es.length c] 38)).heap.size (w.alloc (.cells #[.int .i64 s.r, .int .i64 s.p, .int .i64 s.d, .int .i64 s.m, .slice B s.es.length c] 38)) V) => KS0.next h)
  have HE1 := Lib.hid (hE0.next hlow)
  unfold maxLen at hlm
  go_enter Try.func45, Try.ntmps45
  go_wp2
  generalize w.alloc (.cells #[.int .i64 s.r, .int .i64 s.p, .int .i64 s.d, .int .i64 s.m, .slice B s.es.length c] 38) = w0 at *
  have HB0 := Lib.hid hlow
  clear hlow KS0
  go_loopg [7] s.es.length (fun g s7 wr => ∃ i : Nat, i + g = s.es.length ∧ s7 = .int .i64 i ∧ Hid (allR (edgeB s.es a n) i = true) ∧ Below w0.heap.size w0 wr)
  case atStart => exact ⟨0, by omega, rfl, Lib.hid rfl, Below.refl _ _⟩
  case round =>
    obtain ⟨i, hig, rfl, HR, hb⟩ := hrel
    have kk := KS.out wr hb
    have d4 := kk.cell 4 _ rfl
    cases gk with
    | zero =>
      have hlt : ¬ ((i : Int) < (s.es.length : Int)) := by omega
      have d0 := kk.cell 0 _ rfl
      have d1 := kk.cell 1 _ rfl
      have d2 := kk.cell 2 _ rfl
      have d3 := kk.cell 3 _ rfl
      have hall := Lib.hid (show edgesB s.es a n = true from by unfold edgesB; rw [← (show i = s.es.length from by omega), HR.out])
      clear kk
      by_cases r1 : s.r ≥ 1
      · by_cases r2 : s.r ≤ 32
        · by_cases r3 : s.p ≥ 1
          · by_cases r4 : s.p ≤ 256
            · by_cases r5 : s.d ≥ 0
              · by_cases r6 : s.d ≤ 1
                · by_cases r7 : s.m ≥ 1
                  · by_cases r8 : s.m ≤ 1073741824
                    · have hT := Lib.hid (show stepB s a n = true from by
                        unfold stepB sizesB
                        rw [isW_iff.2 (⟨by omega, by omega⟩ : (1 : Int) ≤ s.r ∧ s.r ≤ 32), isW_iff.2 (⟨by omega, by omega⟩ : (1 : Int) ≤ s.p ∧ s.p ≤ 256), isW_iff.2 (⟨by omega, by omega⟩ : (0 : Int) ≤ s.d ∧ s.d ≤ 1), isW_iff.2 (⟨by omega, by omega⟩ : (1 : Int) ≤ s.m ∧ s.m ≤ 1073741824), hall.out]
                        rfl)
                      go_wp2
                      go_ret
                      exact ⟨by rw [hT.out]; rfl, bmore HB0.out hb⟩
                    · have e : isW s.m 1 1073741824 = false := by rw [← Bool.not_eq_true, isW_iff]; omega
                      have hT := Lib.hid (show stepB s a n = false from by unfold stepB sizesB; rw [e]; simp)
                      clear e
                      go_wp2
                      go_ret
                      exact ⟨by rw [hT.out]; rfl, bmore HB0.out hb⟩
                  · have e : isW s.m 1 1073741824 = false := by rw [← Bool.not_eq_true, isW_iff]; omega
                    have hT := Lib.hid (show stepB s a n = false from by unfold stepB sizesB; rw [e]; simp)
                    clear e
                    go_wp2
                    go_ret
                    exact ⟨by rw [hT.out]; rfl, bmore HB0.out hb⟩
                · have e : isW s.d 0 1 = false := by rw [← Bool.not_eq_true, isW_iff]; omega
                  have hT := Lib.hid (show stepB s a n = false from by unfold stepB sizesB; rw [e]; simp)
                  clear e
                  go_wp2
                  go_ret
                  exact ⟨by rw [hT.out]; rfl, bmore HB0.out hb⟩
              · have e : isW s.d 0 1 = false := by rw [← Bool.not_eq_true, isW_iff]; omega
                have hT := Lib.hid (show stepB s a n = false from by unfold stepB sizesB; rw [e]; simp)
                clear e
                go_wp2
                go_ret
                exact ⟨by rw [hT.out]; rfl, bmore HB0.out hb⟩
            · have e : isW s.p 1 256 = false := by rw [← Bool.not_eq_true, isW_iff]; omega
              have hT := Lib.hid (show stepB s a n = false from by unfold stepB sizesB; rw [e]; simp)
              clear e
              go_wp2
              go_ret
              exact ⟨by rw [hT.out]; rfl, bmore HB0.out hb⟩
          · have e : isW s.p 1 256 = false := by rw [← Bool.not_eq_true, isW_iff]; omega
            have hT := Lib.hid (show stepB s a n = false from by unfold stepB sizesB; rw [e]; simp)
            clear e
            go_wp2
            go_ret
            exact ⟨by rw [hT.out]; rfl, bmore HB0.out hb⟩
        · have e : isW s.r 1 32 = false := by rw [← Bool.not_eq_true, isW_iff]; omega
          have hT := Lib.hid (show stepB s a n = false from by unfold stepB sizesB; rw [e]; simp)
          clear e
          go_wp2
          go_ret
          exact ⟨by rw [hT.out]; rfl, bmore HB0.out hb⟩
      · have e : isW s.r 1 32 = false := by rw [← Bool.not_eq_true, isW_iff]; omega
        have hT := Lib.hid (show stepB s a n = false from by unfold stepB sizesB; rw [e]; simp)
        clear e
        go_wp2
        go_ret
        exact ⟨by rw [hT.out]; rfl, bmore HB0.out hb⟩
    | succ g =>
      have i0 : (0 : Int) ≤ (i : Int) := by omega
      have i1 : (i : Int) < (s.es.length : Int) := by omega
      obtain ⟨ad, rfl, h1, h2⟩ := (HE1.out.next hb).at_ (k := i) (by omega)
      obtain ⟨e0, e1⟩ := h2
      have hE := Lib.hid (show edgeB s.es a n i = (isW (edA s.es i).s 0 (n - 1) && !((edA s.es i).s == a) && isW (edA s.es i).k 0 2 && !namesB s.es i (edA s.es i).s) from rfl)
      have hFf := Lib.hid (show edgeB s.es a n i = false → stepB s a n = false from fun e => by
        unfold stepB edgesB
        rw [allR_no (f := edgeB s.es a n) (i := i) (by omega) e]
        simp)
      generalize edA s.es i = x at *
      clear kk
      by_cases q1 : x.s < 0
      · have hF := Lib.hid (show stepB s a n = false from hFf.out (by
          have e : isW x.s 0 (n - 1) = false := by rw [← Bool.not_eq_true, isW_iff]; omega
          rw [hE.out, e]; rfl))
        clear hE
        go_wp2
        go_ret
        exact ⟨by rw [hF.out]; rfl, bmore HB0.out (bmore hb (below_alloc _ _))⟩
      · by_cases q2 : x.s ≥ n
        · have hF := Lib.hid (show stepB s a n = false from hFf.out (by
            have e : isW x.s 0 (n - 1) = false := by rw [← Bool.not_eq_true, isW_iff]; omega
            rw [hE.out, e]; rfl))
          clear hE
          go_wp2
          go_ret
          exact ⟨by rw [hF.out]; rfl, bmore HB0.out (bmore hb (below_alloc _ _))⟩
        · by_cases q3 : (x.s == a) = true
          · have hF := Lib.hid (show stepB s a n = false from hFf.out (by
              rw [hE.out, q3]; simp))
            clear hE
            go_wp2
            go_ret
            exact ⟨by rw [hF.out]; rfl, bmore HB0.out (bmore hb (below_alloc _ _))⟩
          · by_cases q4 : x.k < 0
            · have q3' : (x.s == a) = false := by simpa using q3
              have hF := Lib.hid (show stepB s a n = false from hFf.out (by
                have e : isW x.k 0 2 = false := by rw [← Bool.not_eq_true, isW_iff]; omega
                rw [hE.out, e]; simp))
              clear hE
              go_wp2
              go_ret
              exact ⟨by rw [hF.out]; rfl, bmore HB0.out (bmore hb (below_alloc _ _))⟩
            · by_cases q5 : x.k > 2
              · have q3' : (x.s == a) = false := by simpa using q3
                have hF := Lib.hid (show stepB s a n = false from hFf.out (by
                  have e : isW x.k 0 2 = false := by rw [← Bool.not_eq_true, isW_iff]; omega
                  rw [hE.out, e]; simp))
                clear hE
                go_wp2
                go_ret
                exact ⟨by rw [hF.out]; rfl, bmore HB0.out (bmore hb (below_alloc _ _))⟩
              · have q3' : (x.s == a) = false := by simpa using q3
                have he := Lib.hid (show edgeB s.es a n i = !namesB s.es i x.s from by rw [hE.out, isW_iff.2 (⟨by omega, by omega⟩ : (0 : Int) ≤ x.s ∧ x.s ≤ n - 1), q3', isW_iff.2 (⟨by omega, by omega⟩ : (0 : Int) ≤ x.k ∧ x.k ≤ 2)]; rfl)
                obtain ⟨wi, hwe⟩ : ∃ x, x = wr := ⟨_, rfl⟩
                subst hwe
                have hwi := Lib.hid (fun V (h : Below (wi.alloc (.cells #[.int .i64 x.s, .int .i64 x.k] 40)).heap.size (wi.alloc (.cells #[.int .i64 x.s, .int .i64 x.k] 40)) V) => bmore (bmore hb (below_alloc _ _)) h)
                have KX := Lib.hid (Bk.new wi 40 #[.int .i64 x.s, .int .i64 x.k])
                go_wp2
                go_loopg [9] i (fun g3 s9 wz => ∃ k : Nat, k + g3 = i ∧ s9 = .int .i64 k ∧ Hid (allR (fun k => !((edA s.es k).s == x.s)) k = true) ∧ Below (wi.alloc (.cells #[.int .i64 x.s, .int .i64 x.k] 40)).heap.size (wi.alloc (.cells #[.int .i64 x.s, .int .i64 x.k] 40)) wz)
                case atStart => exact ⟨0, by omega, rfl, Lib.hid rfl, Below.refl _ _⟩
                case round =>
                  obtain ⟨k, hkg, rfl, HK, hb4⟩ := hrel
                  have d4 := (KS.out wr (hwi.out _ hb4)).cell 4 _ rfl
                  have x0 := (KX.out.next hb4).cell 0 _ rfl
                  cases gk with
                  | zero =>
                    have hkm : ¬ ((k : Int) < (i : Int)) := by omega
                    have hok := Lib.hid (show edgeB s.es a n i = true from by rw [he.out]; unfold namesB; rw [← (show k = i from by omega), HK.out]; rfl)
                    go_wp2
                    go_roundg g
                    case measure => omega
                    case rel => exact ⟨i + 1, by omega, by go_num, Lib.hid (by show (allR _ i && _) = true; rw [HR.out, hok.out]; rfl), hwi.out _ hb4⟩
                  | succ g3 =>
                    have j0 : (0 : Int) ≤ (k : Int) := by omega
                    have j1 : (k : Int) < (i : Int) := by omega
                    have j2 : (k : Int) < (s.es.length : Int) := by omega
                    obtain ⟨y0, y1⟩ := ((HE1.out.next (hwi.out _ hb4)).cellAt (k := k) (by omega)).1
                    have HS := Lib.hid (show allR (fun k => !((edA s.es k).s == x.s)) (k + 1) = !((edA s.es k).s == x.s) from by show (allR _ k && _) = _; rw [HK.out]; rfl)
                    have HF := Lib.hid (show ((edA s.es k).s == x.s) = true → edgesB s.es a n = false from fun e => by
                      unfold edgesB
                      refine allR_no (i := i) (by omega) ?_
                      rw [he.out]
                      unfold namesB
                      rw [allR_no (f := fun k => !((edA s.es k).s == x.s)) (i := k) (by omega) (by rw [e]; rfl)]
                      rfl)
                    generalize edA s.es k = e at *
                    cases hc : (e.s == x.s)
                    · rw [hc] at HS
                      go_wp2
                      go_quiet (fail)
                      go_wp2
                      go_roundg g3
                      case measure => omega
                      case rel => exact ⟨k + 1, by omega, by go_num, Lib.hid (HS.out), below_drewN' hb4 _⟩
                    · have hF := Lib.hid (show stepB s a n = false from by unfold stepB; rw [HF.out hc]; simp)
                      go_wp2
                      go_quiet (fail)
                      go_wp2
                      go_ret
                      exact ⟨by rw [hF.out]; rfl, below_drewN' (bmore HB0.out (hwi.out _ hb4)) _⟩
end Go.Proofs.Ytodgkjmkjahkiaa
