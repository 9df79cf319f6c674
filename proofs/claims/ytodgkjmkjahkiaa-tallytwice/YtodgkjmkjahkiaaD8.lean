/- dag: Settle. -/
import Derived.Test.YtodgkjmkjahkiaaD7
import Derived.Laws.OwnMore
namespace Go.Proofs.Ytodgkjmkjahkiaa
open Go.RowKit

def stlL (l : List St) (cs : List Int) : List Int := if ckB l cs = 0 then settleB l cs else []
def nfB (l : List St) (F : List Int) (q k : Nat) : Bool := !failsB (edA (stA l q).es k) F
theorem step1_nat {l : List St} {F : List Int} {q : Nat} : step1 l F q = if (F.getD q 0 == -1 && !allR (nfB l F q) (stA l q).es.length) then F.set q 256 else F := rfl
theorem iv_set (F : List Int) (q : Nat) (v : Int) : iv (F.set q v) = (iv F).set q (.int .i64 v) := by unfold iv; rw [List.map_set]
theorem iv_at {F : List Int} {q : Nat} (h : q < F.length) : (iv F)[q]? = some (.int .i64 (F.getD q 0)) := by simp [iv, List.getD, h]
set_option maxRecDepth 100000 in
set_option maxHeartbeats 2000000 in
theorem settle_any (A C : Option Addr) (n cap m cc : Nat) (l : List St) (cs : List Int) (w : World) (h : Sl w A n cap l) (hC : Il w C m cs) :
    Calls Try.prog 24 #[.slice A n cap, .slice C m cc] w (Gives2 w (stlL l cs) (ckB l cs)) := by
  have K1 := Lib.hid (ck_any A C n cap m cc l cs w h hC)
  by_cases hk : ckB l cs = 0
  · have hok := ck_ok hk
    have hmay := Lib.hid (check_ok hok.1).1
    have h1l := (may_len hmay.out).1
    have h16 := (may_len hmay.out).2
    rw [h.len] at h16 h1l
    obtain rfl : m = n := by rw [← hC.len, ← h.len, hok.2.1]
    have HR := Lib.hid (show stlL l cs = setl l cs (placesB l) from by unfold stlL settleB; rw [if_pos hk])
    have HG := Lib.hid (Good.places l)
    have HL := Lib.hid (fun o => setl_len (l := l) (o := o) (cs := cs))
    have hpl := (Good.places l).le
    rw [h.len] at hpl
    have H := Lib.hid h
    have HC := Lib.hid hC
    have K2 := Lib.hid (fun V (hb : Below w.heap.size w V) => clone_any C m cc cs V (HC.out.ints.next hb) HC.out.len (by omega))
    have K3 := Lib.hid (fun V (hb : Below w.heap.size w V) => places_any A m cap l V (H.out.sts.next hb) H.out.len h16)
    rw [hk] at K1 ⊢
    clear hk hok h hC
    generalize placesB l = p at *
    go_enter Try.func24, Try.ntmps24
    go_wp2
    go_step3
    go_wp2_with (first
      | (go_at_call 47; (with_reducible refine K1.out.mono ?_); rintro y w1 ⟨rfl, hb1⟩)
      | (go_at_call 51; (with_reducible refine (K2.out _ hb1).mono ?_); rintro y w2 ⟨v2, rfl, row2, hb2⟩))
    go_step3
    obtain ⟨k', hk'⟩ : ∃ k', m = k' + 1 := ⟨m - 1, by omega⟩
    rw [hk'] at row2
    obtain ⟨g1, cap1, e1⟩ := ownsRow_succ row2
    rw [← hk'] at row2 e1
    clear hk' k'
    subst e1
    have row2' := Joins.ownsRow_le row2 hb1.size
    have hg1 : w.heap.size ≤ g1 ∧ g1 < w2.heap.size := by
      rcases row2'.2 with ⟨h0, _⟩ | ⟨g', c', cu, h1, h2, h3, _⟩
      · cases h0
      · cases h1
        exact ⟨h2, (Array.getElem?_eq_some_iff.1 h3).1⟩
    go_wp2_with (go_at_call 44; (with_reducible refine (K3.out _ (bmore hb1 hb2)).mono ?_); rintro y w3 ⟨v3, rfl, row3, hb3⟩; obtain ⟨P, capP, rfl⟩ := own_form row3)
    have hb123 := bmore (bmore hb1 hb2) hb3
    have hs3 := hb3.size
    go_loopg [23] p.length (fun g s23 wr => ∃ i : Nat, i + g = p.length ∧ s23 = .int .i64 i ∧ wr.ownsRow w.heap.size 3 1 (.slice (some ⟨g1, 0, none⟩) m cap1) m (iv (setl l cs (p.take i))) ∧ wr.ownsRow w2.heap.size 3 1 (.slice P p.length capP) p.length (iv p) ∧ Below w.heap.size w wr)
    case atStart => exact ⟨0, by omega, rfl, own_next row2' hb3, row3, hb123⟩
    case round =>
      obtain ⟨i, hig, rfl, hrow, hp3, hb⟩ := hrel
      obtain ⟨wo, hwo⟩ : ∃ x, x = wr := ⟨_, rfl⟩
      subst hwo
      cases gk with
      | zero =>
        have hip : i = p.length := by omega
        have hlt : ¬ ((i : Int) < (p.length : Int)) := by omega
        have HE := Lib.hid (show stlL l cs = setl l cs (p.take i) from by rw [HR.out, hip, List.take_length])
        have HLn := Lib.hid (show (setl l cs (p.take i)).length = m from by rw [HL.out, HC.out.len])
        clear hip
        go_wp2
        try rw [Exit.noGoto_ret]
        go_ret2
        refine ⟨_, rfl, ?_, hb⟩
        rw [HE.out, HLn.out]
        exact hrow
      | succ g =>
        have i0 : (0 : Int) ≤ (i : Int) := by omega
        have i1 : (i : Int) < (p.length : Int) := by omega
        have hpi : p[i]? = some (p[i]'(by omega)) := List.getElem?_eq_getElem _
        have hrange := HG.out.lt (List.mem_of_getElem? hpi)
        rw [H.out.len] at hrange
        obtain ⟨q, hq⟩ : ∃ q : Nat, p[i]'(by omega) = q := ⟨(p[i]'(by omega)).toNat, by omega⟩
        rw [hq] at hpi hrange
        clear hq
        obtain ⟨adP, rfl, hPb, hPc⟩ := (ints_iv rfl hp3).at_ (k := i) (by omega)
        rw [show p.getD i 0 = (q : Int) from by rw [List.getD_eq_getElem?_getD, hpi]; rfl] at hPc
        have hqm : q < m := by omega
        have HT := Lib.hid (show setl l cs (p.take (i + 1)) = step1 l (setl l cs (p.take i)) q from by rw [List.take_add_one, hpi]; exact setl_push)
        have HFl := Lib.hid (show (setl l cs (p.take i)).length = m from by rw [HL.out, HC.out.len])
        generalize setl l cs (p.take i) = F at *
        rw [step1_nat] at HT
        have hcq := (hrow.cellAt q (by omega)).trans (iv_at (by rw [HFl.out]; exact hqm))
        have hfq := hrow.frozenAt q
        have q0 : (0 : Int) ≤ (q : Int) := by omega
        have q1 : (q : Int) < (m : Int) := by omega
        obtain ⟨ad, B, c, rfl, h1, h2⟩ := (H.out.sts.next hb).at_ (i := q) (by rw [H.out.len]; exact hqm)
        obtain ⟨c0, c1, c2, c3, c4, lm, lc, eds⟩ := h2
        unfold maxLen at lm
        clear hpi hrange c0 c1 c2 c3
        have HO := Lib.hid (fun k (hk : k < (stA l q).es.length) => may_edge hmay.out (i := q) (k := k) (by rw [H.out.len]; exact hqm) hk)
        have HD := Lib.hid (fun k => (show nfB l F q k = !failsB (edA (stA l q).es k) F from rfl))
        generalize nfB l F q = nf at *
        generalize stA l q = x at *
        by_cases hz : F.getD q 0 = -1
        · rw [hz] at hcq HT
          clear hz
          go_wp2
          go_loopg [38] x.es.length (fun g3 s38 wz => ∃ k : Nat, k + g3 = x.es.length ∧ s38 = .int .i64 k ∧ Hid (allR nf k = true) ∧ Below wo.heap.size wo wz)
          case atStart => exact ⟨0, by omega, rfl, Lib.hid rfl, Below.refl _ _⟩
          case round =>
            obtain ⟨k, hkg, rfl, HK, hb4⟩ := hrel
            cases gk with
            | zero =>
              have hkm : ¬ ((k : Int) < (x.es.length : Int)) := by omega
              have HE := Lib.hid (show setl l cs (p.take (i + 1)) = F from by rw [HT.out, ← (show k = x.es.length from by omega), HK.out]; rfl)
              go_wp2
              go_roundg g
              case measure => omega
              case rel => exact ⟨i + 1, by omega, by go_num, by rw [HE.out]; exact own_next hrow hb4, own_next hp3 hb4, bmore hb hb4⟩
            | succ g3 =>
              have j0 : (0 : Int) ≤ (k : Int) := by omega
              have j1 : (k : Int) < (x.es.length : Int) := by omega
              obtain ⟨ad3, rfl, hh, e0, e1⟩ := (eds.next hb4).at_ (k := k) (by omega)
              obtain ⟨j, hj, hjl⟩ := HO.out k (by omega)
              rw [H.out.len] at hjl
              have hbn4 := Lib.hid (fun ob => bmore hb4 (below_alloc wr ob))
              have K4 := Lib.hid (fun V (h : Below wo.heap.size wo V) => fails_any (some ⟨g1, 0, none⟩) m cap1 F j (edA x.es k).k V (ints_iv HFl.out (own_next hrow h)) HFl.out (by unfold maxLen; omega) hjl)
              have hfo := Lib.hid (show fB (edA x.es k).k (F.getD j 0) = !nf k from by rw [HD.out, fails_fB hj]; simp)
              rw [hfo.out] at K4
              have HS := Lib.hid (show allR nf (k + 1) = nf k from by show (allR _ k && _) = _; rw [HK.out]; rfl)
              have HE := Lib.hid (show nf k = false → setl l cs (p.take (i + 1)) = F.set q 256 from fun e => by rw [HT.out, allR_no (f := nf) (i := k) (by omega) e]; rfl)
              rw [hj] at e0
              clear hj hfo
              generalize (edA x.es k).k = kk at *
              generalize nf k = b at *
              cases b
              · have hE := Lib.hid (HE.out rfl)
                go_wp2_with (go_at_call 52; (with_reducible refine (K4.out _ (hbn4.out _)).mono ?_); rintro y w5 ⟨rfl, hb5⟩; have row5 := own_next hrow (bmore (hbn4.out _) hb5); have pp5 := own_next hp3 (bmore (hbn4.out _) hb5); have d5 := (row5.cellAt q (by omega)).trans (iv_at (by rw [HFl.out]; exact hqm)); have f5 := row5.frozenAt q)
                go_roundg g
                case measure => omega
                case rel =>
                  refine ⟨i + 1, by omega, by go_num, ?_, ownsRow_setCell_below pp5 (by simpa using hg1.2) _, (bmore hb (bmore (hbn4.out _) hb5)).setCell hg1.1 _⟩
                  rw [hE.out, iv_set]
                  exact (row5.stored q _).1
              · go_wp2_with (go_at_call 52; (with_reducible refine (K4.out _ (hbn4.out _)).mono ?_); rintro y w5 ⟨rfl, hb5⟩)
                go_roundg g3
                case measure => omega
                case rel => exact ⟨k + 1, by omega, by go_num, HS, bmore (hbn4.out _) hb5⟩
        · have hz2 : (F.getD q 0 == -1) = false := by simpa using hz
          have HE := Lib.hid (show setl l cs (p.take (i + 1)) = F from by rw [HT.out, hz2]; rfl)
          generalize F.getD q 0 = z at *
          have hz3 : (z != -1) = true := by unfold bne; rw [hz2]; rfl
          clear hz
          go_wp2
          go_roundg g
          case measure => omega
          case rel => exact ⟨i + 1, by omega, by go_num, by rw [HE.out]; exact hrow, hp3, hb⟩
  · have hT := Lib.hid (show stlL l cs = [] from by unfold stlL; rw [if_neg hk])
    have hc' : (ckB l cs == 0) = false := by simpa using hk
    have hc2 : (ckB l cs != 0) = true := by unfold bne; rw [hc']; rfl
    rw [hT.out]
    generalize ckB l cs = c at *
    clear hk
    go_enter Try.func24, Try.ntmps24
    go_wp2
    go_step3
    go_wp2_with (go_at_call 47; (with_reducible refine K1.out.mono ?_); rintro y w1 ⟨rfl, hb1⟩)
    try rw [Exit.noGoto_ret]
    go_ret2
    exact ⟨_, rfl, World.ownsRow_nil _ _ _ _, hb1⟩
end Go.Proofs.Ytodgkjmkjahkiaa
