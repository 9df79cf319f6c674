/- The law on who is missing. -/
import Derived.Test.YtodgkjmkjahkiaaV11
namespace Go.Proofs.Ytodgkjmkjahkiaa
open Go.RowKit Go.Maps

set_option maxRecDepth 100000 in
set_option maxHeartbeats 8000000 in
theorem missing_law (A S : Option Addr) (n cap m cs : Nat) (zs : List Int) (os : List Op4) (w : World) (h : Il w A n zs) (hS : Sc w S m os) :
    Calls Try.prog 14 #[.slice A n cap, .slice S m cs] w fun e w' => e = .returned (.bool true) ∧ Below w.heap.size w w' := by
  have KL := Lib.hid tlive_any
  have hm1 := hS.most
  have hn1 := h.most
  unfold maxLen at hm1 hn1
  have HI := Lib.hid h
  have HS := Lib.hid hS
  clear h hS
  by_cases gm : m > 100
  · have gm' : (m : Int) > 100 := by omega
    go_enter Try.func14, Try.ntmps14
    go_wp2_with (go_at_call 29; (with_reducible refine (KL.out _).mono ?_); rintro _ w9 ⟨rfl, hb9⟩)
    go_ret
    exact ⟨rfl, hb9⟩
  · have gm' : ¬ ((m : Int) > 100) := by omega
    by_cases gn : n > 16
    · have gn' : (n : Int) > 16 := by omega
      go_enter Try.func14, Try.ntmps14
      go_wp2_with (go_at_call 29; (with_reducible refine (KL.out _).mono ?_); rintro _ w9 ⟨rfl, hb9⟩)
      go_ret
      exact ⟨rfl, hb9⟩
    · have gn' : ¬ ((n : Int) > 16) := by omega
      go_enter Try.func14, Try.ntmps14
      go_wp2_with fail
      refine (rnew_any A n cap zs w HI.out).mono ?_
      rintro _ w1 ⟨(⟨hno, rfl⟩ | ⟨hok, q0, va0, vb0, vc0, rfl, _, _⟩), hb1⟩
      · go_wp2_with (go_at_call 29; (with_reducible refine (KL.out _).mono ?_); rintro _ w9 ⟨rfl, hb9⟩)
        go_ret
        exact ⟨rfl, bmore hb1 hb9⟩
      · have HOK := Lib.hid hok
        clear hok
        have HB1 := Lib.hid hb1
        have HI1 := Lib.hid (HI.out.next hb1)
        have HS1 := Lib.hid (HS.out.next hb1)
        clear hb1
        go_wp2_with fail
        refine (tnew_any A n cap zs w1 HI1.out).mono ?_
        rintro _ w2 ⟨(⟨hno, _⟩ | ⟨_, p, bv, bc, rfl, hT, hp, hv, hc⟩), hb1⟩
        · exact absurd hno (by rw [HOK.out]; simp)
        have hok := HOK.out
        have HT := Lib.hid (And.intro hT (And.intro hv (And.intro hc hb1)))
        have HI2 := Lib.hid (HI1.out.next hb1)
        clear hT hp hv hc hb1
        go_wp2_with fail
        refine (rnew_any A n cap zs w2 HI2.out).mono ?_
        rintro _ w3 ⟨(⟨hno, _⟩ | ⟨_, q, va, vb, vc, rfl, hR, hq⟩), hb2⟩
        · exact absurd hok (by rw [hno]; simp)
        obtain ⟨hT, hv, hc, hb1⟩ := HT.out
        have hP0 := Lib.hid (pr_new hT hR hb2 hq hok HI.out.len)
        have HX := Lib.hid (show ∀ g, XP bv bc vb vc g → w1.heap.size ≤ g from by
          have := hb1.size
          intro g hg
          rcases hg with rfl | rfl | e | e
          · exact hv
          · exact hc
          · have := (own_blk hR.rb e).1; omega
          · have := (own_blk hR.rc e).1; omega)
        have HB0 := Lib.hid (bmore hb1 hb2)
        have hTok := Lib.hid (TOk.new hok HI.out.len)
        have hN0 := Lib.hid (show (Tv.mk zs (List.replicate n 0) (List.replicate n (-1))).ns.length = n from HI.out.len)
        clear hT hR hv hc hq hb1 hb2 hok HT HI2
        go_wp2
        go_loopg [7] m (fun g s7 wr => ∃ (i : Nat) (T : Tv), i + g = m ∧ s7 = .int .i64 i ∧ Hid (Pr wr p bv bc q va vb vc n i T (SS vb vc)) ∧ Hid (TOk T ∧ T.ns.length = n) ∧ Below w1.heap.size w1 wr)
        case atStart => exact ⟨0, _, by omega, rfl, hP0, Lib.hid ⟨hTok.out, hN0.out⟩, HB0.out⟩
        case round =>
          clear hP0 HB0 hTok hN0
          obtain ⟨i, T, hig, rfl, HP, HK, hb⟩ := hrel
          cases gk with
          | zero =>
            have hlt : ¬ ((i : Int) < (m : Int)) := by omega
            have HT0 := Lib.hid HP.out.t.tal
            have HXV := Lib.hid (And.intro (HX.out bv (.inl rfl)) (HX.out bc (.inr (.inl rfl))))
            clear HX HP
            go_wp2
            go_loopg [8, 9, 10] (cnt T) (fun g s8 s9 s10 wx => ∃ (U : Tv) (k : Nat), cnt U = g ∧ Hid (k + 2 * g ≤ 400) ∧ Hid (TalAt wx p bv bc k U) ∧ Hid (TOk U ∧ U.ns.length = n) ∧ Below w1.heap.size w1 wx)
            case atStart =>
              have := cnt_le T
              have := HK.out.2
              exact ⟨T, i, rfl, Lib.hid (by omega), HT0, HK, hb⟩
            case round =>
              clear HT0 hb HK
              obtain ⟨U, k, hcn, HKK, HT, HK, hb⟩ := hrel
              have HU16 := Lib.hid (show U.miss.length ≤ 16 from by have := miss_len U; have := HK.out.2; omega)
              have hst := Lib.hid (st_range U)
              by_cases s0 : U.st = 0
              · obtain ⟨x, r, f1, f2, f3, f4, f5⟩ := miss_open HK.out.1 s0
                have hr16 : r.length ≤ 16 := by have := HU16.out; rw [f1] at this; simp at this; omega
                have hk9 := HKK.out
                have HF := Lib.hid (show TOk (voteT U x true) ∧ (voteT U x true).ns.length = n from ⟨HK.out.1.vote x true, by rw [voteT_ns]; exact HK.out.2⟩)
                have HMN := Lib.hid f5
                have HCN := Lib.hid f4
                have HQ := Lib.hid s0
                clear f4 f5 HU16 hst
                go_wp2_with fail
                refine (state_any HT.out).mono ?_
                rintro _ w4 ⟨rfl, h⟩
                rw [HQ.out]
                replace HT := Lib.hid (HT.out.next h)
                replace hb := bmore hb h
                clear h
                go_wp2_with fail
                refine (missing_any HT.out).mono ?_
                rintro _ w5 ⟨v, rfl, row, h⟩
                rw [f1] at row
                obtain ⟨A1, k1, rfl⟩ := own_form row
                replace HT := Lib.hid (HT.out.next h)
                replace hb := bmore hb h
                have HR := Lib.hid (fun (V : World) (hV : V.ownsRow w4.heap.size 3 1 (.slice A1 (x :: r).length k1) (x :: r).length (iv (x :: r))) => show ∃ ad, A1 = some ad ∧ ad.block < V.heap.size ∧ V.cell? ad = some (.int .i64 x) from by
                  obtain ⟨ad, e, q1, q2⟩ := (ints_iv rfl hV).at_ (k := 0) (by simp)
                  refine ⟨ad, e, q1, ?_⟩
                  have e00 : ad.add 0 = ad := by unfold Addr.add; simp
                  rw [e00] at q2
                  exact q2)
                have hrow := Lib.hid row
                obtain ⟨ad, rfl, d1, d2⟩ := HR.out _ row
                clear h row
                go_wp2_with fail
                refine (state_any HT.out).mono ?_
                rintro _ w6 ⟨rfl, h⟩
                rw [HQ.out]
                replace HT := Lib.hid (HT.out.next h)
                replace hb := bmore hb h
                replace hrow := Lib.hid (own_next hrow.out h)
                clear h d1 d2
                obtain ⟨ad', e', d1, d2⟩ := HR.out _ hrow.out
                cases e'
                go_wp2_with fail
                refine (exit_tal HT.out (by omega) x 0).mono ?_
                rintro _ w7 ⟨rfl, hT, hmv, hg⟩
                rw [f2] at hT
                generalize exitE U x 0 = e0 at *
                replace HT := Lib.hid hT
                replace hb := hb.grown hg hb.size (fun j ej => by cases ej; exact HXV.out.2)
                replace hrow := Lib.hid (own_mv hrow.out hmv)
                clear hT hmv hg d1 d2
                obtain ⟨ad', e', d1, d2⟩ := HR.out _ hrow.out
                cases e'
                go_wp2_with fail
                refine (vote_tal HT.out (by omega) x true).mono ?_
                rintro _ w8 ⟨rfl, hT, hmv, hg⟩
                rw [f3]
                replace HT := Lib.hid hT
                replace hb := hb.grown hg hb.size (fun j ej => by cases ej; exact HXV.out.1)
                replace hrow := Lib.hid (own_mv hrow.out hmv)
                clear hT hmv hg d1 d2
                obtain ⟨T2, hT2⟩ : ∃ X, X = voteT U x true := ⟨_, rfl⟩
                rw [← hT2] at HT HF HMN HCN
                clear hT2 hrow HR
                go_wp2_with fail
                refine (state_any HT.out).mono ?_
                rintro _ w9 ⟨rfl, h⟩
                replace HT := Lib.hid (HT.out.next h)
                replace hb := bmore hb h
                clear h
                by_cases s2 : T2.st = 0
                · rw [s2]
                  have hml := HMN.out s2
                  go_wp2_with fail
                  refine (missing_any HT.out).mono ?_
                  rintro _ w10 ⟨v, rfl, row, h⟩
                  rw [hml] at row
                  obtain ⟨A2, k2, rfl⟩ := own_form row
                  replace HT := Lib.hid (HT.out.next h)
                  replace hb := bmore hb h
                  clear h row
                  go_wp2_with fail
                  go_roundg (cnt T2)
                  case measure => have := HCN.out; omega
                  case rel => exact ⟨T2, k + 2, rfl, Lib.hid (by have := HCN.out; omega), Lib.hid (HT.out.few (by omega)), HF, hb⟩
                · have s2' : (T2.st == 0) = false := by simpa using s2
                  generalize hs2 : T2.st = s9 at *
                  clear hs2
                  go_wp2_with fail
                  go_roundg (cnt T2)
                  case measure => have := HCN.out; omega
                  case rel => exact ⟨T2, k + 2, rfl, Lib.hid (by have := HCN.out; omega), Lib.hid (HT.out.few (by omega)), HF, hb⟩
              · by_cases s1 : U.st = 1
                · obtain ⟨x, r, f1, f3, f4, f5⟩ := miss_go HK.out.1 s1
                  have hr16 : r.length ≤ 16 := by have := HU16.out; rw [f1] at this; simp at this; omega
                  have hk9 := HKK.out
                  have HF := Lib.hid (show TOk (exitT U x 0) ∧ (exitT U x 0).ns.length = n from ⟨HK.out.1.exit x 0, by rw [exitT_ns]; exact HK.out.2⟩)
                  have HMN := Lib.hid f5
                  have HCN := Lib.hid f4
                  have HQ := Lib.hid s1
                  clear f4 f5 HU16 hst
                  go_wp2_with fail
                  refine (state_any HT.out).mono ?_
                  rintro _ w4 ⟨rfl, h⟩
                  rw [HQ.out]
                  replace HT := Lib.hid (HT.out.next h)
                  replace hb := bmore hb h
                  clear h
                  go_wp2_with fail
                  refine (state_any HT.out).mono ?_
                  rintro _ w4b ⟨rfl, h⟩
                  rw [HQ.out]
                  replace HT := Lib.hid (HT.out.next h)
                  replace hb := bmore hb h
                  clear h
                  go_wp2_with fail
                  refine (missing_any HT.out).mono ?_
                  rintro _ w5 ⟨v, rfl, row, h⟩
                  rw [f1] at row
                  obtain ⟨A1, k1, rfl⟩ := own_form row
                  replace HT := Lib.hid (HT.out.next h)
                  replace hb := bmore hb h
                  have HR := Lib.hid (fun (V : World) (hV : V.ownsRow w4b.heap.size 3 1 (.slice A1 (x :: r).length k1) (x :: r).length (iv (x :: r))) => show ∃ ad, A1 = some ad ∧ ad.block < V.heap.size ∧ V.cell? ad = some (.int .i64 x) from by
                    obtain ⟨ad, e, q1, q2⟩ := (ints_iv rfl hV).at_ (k := 0) (by simp)
                    refine ⟨ad, e, q1, ?_⟩
                    have e00 : ad.add 0 = ad := by unfold Addr.add; simp
                    rw [e00] at q2
                    exact q2)
                  have hrow := Lib.hid row
                  obtain ⟨ad, rfl, d1, d2⟩ := HR.out _ row
                  clear h row
                  go_wp2_with fail
                  refine (state_any HT.out).mono ?_
                  rintro _ w6 ⟨rfl, h⟩
                  rw [HQ.out]
                  replace HT := Lib.hid (HT.out.next h)
                  replace hb := bmore hb h
                  replace hrow := Lib.hid (own_next hrow.out h)
                  clear h d1 d2
                  obtain ⟨ad', e', d1, d2⟩ := HR.out _ hrow.out
                  cases e'
                  go_wp2_with fail
                  refine (exit_tal HT.out (by omega) x 0).mono ?_
                  rintro _ w7 ⟨rfl, hT, hmv, hg⟩
                  rw [f3]
                  replace HT := Lib.hid hT
                  replace hb := hb.grown hg hb.size (fun j ej => by cases ej; exact HXV.out.2)
                  replace hrow := Lib.hid (own_mv hrow.out hmv)
                  clear hT hmv hg d1 d2
                  obtain ⟨T2, hT2⟩ : ∃ X, X = exitT U x 0 := ⟨_, rfl⟩
                  rw [← hT2] at HT HF HMN HCN
                  clear hT2 hrow HR
                  go_wp2_with fail
                  refine (state_any HT.out).mono ?_
                  rintro _ w9 ⟨rfl, h⟩
                  replace HT := Lib.hid (HT.out.next h)
                  replace hb := bmore hb h
                  clear h
                  by_cases s2 : T2.st = 1
                  · rw [s2]
                    have hml := HMN.out s2
                    go_wp2_with fail
                    refine (missing_any HT.out).mono ?_
                    rintro _ w10 ⟨v, rfl, row, h⟩
                    rw [hml] at row
                    obtain ⟨A2, k2, rfl⟩ := own_form row
                    replace HT := Lib.hid (HT.out.next h)
                    replace hb := bmore hb h
                    clear h row
                    go_wp2_with fail
                    go_roundg (cnt T2)
                    case measure => have := HCN.out; omega
                    case rel => exact ⟨T2, k + 2, rfl, Lib.hid (by have := HCN.out; omega), Lib.hid (HT.out.few (by omega)), HF, hb⟩
                  · have s2' : (T2.st == 1) = false := by simpa using s2
                    generalize hs2 : T2.st = s9 at *
                    clear hs2
                    go_wp2_with fail
                    go_roundg (cnt T2)
                    case measure => have := HCN.out; omega
                    case rel => exact ⟨T2, k + 2, rfl, Lib.hid (by have := HCN.out; omega), Lib.hid (HT.out.few (by omega)), HF, hb⟩
                · have HE := Lib.hid (show U.miss = [] from miss_else (by
                    rcases hst.out with h | h | h | h
                    · exact absurd h s0
                    · exact absurd h s1
                    · exact .inl h
                    · exact .inr h))
                  have s0' : (U.st == 0) = false := by simpa using s0
                  have s1' : (U.st == 1) = false := by simpa using s1
                  have KS := Lib.hid (fun (V : World) (h : TalAt V p bv bc k U) => state_any h)
                  have KM := Lib.hid (fun (V : World) (h : TalAt V p bv bc k U) => missing_any h)
                  rw [HE.out] at KM
                  generalize U.st = s9 at *
                  go_wp2_with fail
                  refine (KS.out _ HT.out).mono ?_
                  rintro _ w4 ⟨rfl, h⟩
                  replace HT := Lib.hid (HT.out.next h)
                  replace hb := bmore hb h
                  clear h
                  go_wp2_with fail
                  refine (KS.out _ HT.out).mono ?_
                  rintro _ w5 ⟨rfl, h⟩
                  replace HT := Lib.hid (HT.out.next h)
                  replace hb := bmore hb h
                  clear h
                  go_wp2_with fail
                  refine (KM.out _ HT.out).mono ?_
                  rintro _ w6 ⟨v, rfl, row, h⟩
                  obtain ⟨A1, k1, rfl⟩ := own_form row
                  replace hb := bmore hb h
                  clear h row
                  go_wp2_with (go_at_call 29; (with_reducible refine (KL.out _).mono ?_); rintro _ w9 ⟨rfl, hb9⟩)
                  go_ret
                  exact ⟨rfl, bmore HB1.out (bmore hb hb9)⟩
          | succ g =>
            have i0 : (0 : Int) ≤ (i : Int) := by omega
            have i1 : (i : Int) < (m : Int) := by omega
            obtain ⟨ad, rfl, h1, ⟨c0, c1, c2, c3⟩⟩ := (HS1.out.next hb).at' (i := i) (by omega)
            have KD := Lib.hid (does_any HP.out (by omega) (opA os i))
            have HK2 := Lib.hid (show TOk (opT T (opA os i)) ∧ (opT T (opA os i)).ns.length = n from ⟨HK.out.1.op _, by rw [opT_ns]; exact HK.out.2⟩)
            generalize opA os i = o at *
            obtain ⟨ov, on, oy, oc⟩ := o
            dsimp only [Op4.cs] at c0 c1 c2 c3 KD
            generalize opT T ⟨ov, on, oy, oc⟩ = T2 at *
            go_wp2_with fail
            refine KD.out.mono ?_
            rintro _ w2 ⟨rfl, hP, ht⟩
            replace hb := hb.trans (ht.low hb.size HX.out)
            replace HP := Lib.hid hP
            clear hP ht KD c0 c1 c2 c3 h1
            go_wp2_with fail
            go_roundg g
            case measure => omega
            case rel => exact ⟨i + 1, T2, by omega, by go_num, HP, HK2, hb⟩
end Go.Proofs.Ytodgkjmkjahkiaa
