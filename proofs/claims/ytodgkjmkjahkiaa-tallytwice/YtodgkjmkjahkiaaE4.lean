/- The law on settling twice. -/
import Derived.Test.YtodgkjmkjahkiaaE3
namespace Go.Proofs.Ytodgkjmkjahkiaa
open Go.RowKit

/-- Codes of steps that may be, settled. -/
theorem settled {l : List St} {cs : List Int} (h : ckB l cs = 0) : Fix l cs (settleB l cs) := by
  have h1 := ck_ok h
  exact settle_fix (check_ok h1.1).2 h1.2.1
theorem code_nat (cs : List Int) (i : Nat) : codeA cs (i : Int) = cs.getD i 0 := rfl
theorem wiB_iff {cs : List Int} {i : Nat} : wiB cs i = true ↔ -1 ≤ cs.getD i 0 ∧ cs.getD i 0 ≤ 256 := isW_iff
theorem ck_mk {l : List St} {cs : List Int} (h1 : checkB l = 0) (h2 : cs.length = l.length) (h3 : ∀ i, i < cs.length → -1 ≤ cs.getD i 0 ∧ cs.getD i 0 ≤ 256) : ckB l cs = 0 := by
  show (if checkB l = 0 then (if cs.length = l.length then (if allR (wiB cs) cs.length then 0 else 5) else 5) else checkB l) = 0
  rw [if_pos h1, if_pos h2, allR_iff.2 fun i hi => wiB_iff.2 (h3 i hi)]
  rfl
theorem ck_range {l : List St} {cs : List Int} (h : ckB l cs = 0) {i : Nat} (hi : i < cs.length) : -1 ≤ cs.getD i 0 ∧ cs.getD i 0 ≤ 256 := wiB_iff.1 (allR_iff.1 (ck_ok h).2.2 i hi)
/-- What a settled code is. -/
theorem settled_at {l : List St} {cs : List Int} (h : ckB l cs = 0) {i : Nat} (hi : i < l.length) :
    (cs.getD i 0 ≠ -1 ∧ (settleB l cs).getD i 0 = cs.getD i 0) ∨ (cs.getD i 0 = -1 ∧ (settleB l cs).getD i 0 = -1 ∧ ¬ anyF l (settleB l cs) i) ∨ (cs.getD i 0 = -1 ∧ (settleB l cs).getD i 0 = 256 ∧ anyF l (settleB l cs) i) := by
  have hf := (settled h).2 i (by omega) (by omega)
  unfold Form at hf
  rw [code_nat, code_nat] at hf
  by_cases h1 : cs.getD i 0 = -1
  · by_cases h2 : anyF l (settleB l cs) i
    · exact .inr (.inr ⟨h1, hf.2.1 h1 h2, h2⟩)
    · exact .inr (.inl ⟨h1, hf.2.2 h1 h2, h2⟩)
  · exact .inl ⟨h1, hf.1 h1⟩
theorem settled_len {l : List St} {cs : List Int} : (settleB l cs).length = cs.length := setl_len
theorem settled_ck {l : List St} {cs : List Int} (h : ckB l cs = 0) : ckB l (settleB l cs) = 0 := by
  have h1 := ck_ok h
  refine ck_mk h1.1 (settled_len.trans h1.2.1) fun i hi => ?_
  rw [settled_len] at hi
  rcases settled_at h (i := i) (by omega) with ⟨_, e⟩ | ⟨_, e, _⟩ | ⟨_, e, _⟩
  · rw [e]; exact ck_range h hi
  · rw [e]; omega
  · rw [e]; omega
theorem settled_twice {l : List St} {cs : List Int} (h : ckB l cs = 0) : settleB l (settleB l cs) = settleB l cs := by
  have h1 := ck_ok h
  have h2 := settled_ck h
  have hl := (settled_len (l := l) (cs := cs)).trans h1.2.1
  refine fix_one (Good.places l) (check_ok h1.1).2 hl (settled h2) ⟨rfl, fun p hp hpl => ?_⟩
  obtain ⟨i, rfl⟩ : ∃ i : Nat, p = i := ⟨p.toNat, by omega⟩
  unfold Form
  rw [code_nat]
  rcases settled_at h (i := i) (by omega) with ⟨h3, e⟩ | ⟨_, e, h4⟩ | ⟨_, e, _⟩
  · exact ⟨fun _ => rfl, fun h4 => absurd (e.symm.trans h4) h3, fun h4 => absurd (e.symm.trans h4) h3⟩
  · exact ⟨fun _ => rfl, fun _ h5 => absurd h5 h4, fun _ _ => e⟩
  · exact ⟨fun _ => rfl, fun _ _ => e, fun h5 => absurd (e.symm.trans h5) (by decide)⟩
theorem anyF_some {l : List St} {F : List Int} {i : Nat} (h : anyF l F i) : 1 ≤ (stA l i).es.length := by
  obtain ⟨e, he, _⟩ := h
  rw [Int.toNat_natCast] at he
  exact List.length_pos_of_mem he
/-- The three ways of a place. -/
theorem settled_ways {l : List St} {cs : List Int} (h : ckB l cs = 0) {i : Nat} (hi : i < l.length) :
    (((cs.getD i 0 == -1) = false ∧ (settleB l cs).getD i 0 = cs.getD i 0) ∨ (cs.getD i 0 = -1 ∧ (settleB l cs).getD i 0 = -1)) ∨ (cs.getD i 0 = -1 ∧ (settleB l cs).getD i 0 = 256 ∧ 1 ≤ (stA l i).es.length) := by
  rcases settled_at h hi with ⟨h3, e⟩ | ⟨h3, e, h4⟩ | ⟨h3, e, h4⟩
  · exact .inl (.inl ⟨by simpa using h3, e⟩)
  · exact .inl (.inr ⟨h3, e⟩)
  · exact .inr ⟨h3, e, anyF_some h4⟩
set_option maxRecDepth 100000 in
set_option maxHeartbeats 4000000 in
theorem settles_law (A C : Option Addr) (n cap m cc : Nat) (l : List St) (cs : List Int) (w : World) (h : Sl w A n cap l) (hC : Il w C m cs) :
    Calls Try.prog 8 #[.slice A n cap, .slice C m cc] w fun e w' => e = .returned (.bool true) ∧ Below w.heap.size w w' := by
  have KL := Lib.hid live_any
  have K1 := Lib.hid (small_any A n cap l w h.sts h.len h.most)
  have K2 := Lib.hid (settle_any A C n cap m cc l cs w h hC)
  have hmm := hC.most
  unfold maxLen at hmm
  cases hs : smallB l
  · rw [hs] at K1
    go_enter Try.func8, Try.ntmps8
    go_wp2_with (first
      | (go_at_call 15; (with_reducible refine K1.out.mono ?_); rintro y w ⟨rfl, rfl⟩)
      | (go_at_call 16; (with_reducible refine (KL.out _).mono ?_); rintro y w1 ⟨rfl, hb1⟩))
    go_ret
    exact ⟨rfl, hb1⟩
  · rw [hs] at K1
    clear hs
    by_cases hm : m ≤ 40
    · have hm40 : ¬ ((m : Int) > 40) := by omega
      by_cases hk : ckB l cs = 0
      · have hE := Lib.hid (show stlL l cs = settleB l cs from by unfold stlL; rw [if_pos hk])
        rw [hE.out, hk] at K2
        have hmn : m = n := by rw [← hC.len, ← h.len]; exact (ck_ok hk).2.1
        have hFl := Lib.hid (show (settleB l cs).length = m from by rw [settled_len, hC.len])
        have HW := Lib.hid (fun i (hi : i < m) => settled_ways hk (i := i) (by rw [h.len, ← hmn]; exact hi))
        have K3 := Lib.hid (fun V A1 c1 (hb : Below w.heap.size w V) (hI : Il V A1 m (settleB l cs)) => (by
          have := settle_any A A1 n cap m c1 l (settleB l cs) V (h.next hb) hI
          rwa [show stlL l (settleB l cs) = settleB l cs from by unfold stlL; rw [if_pos (settled_ck hk)]; exact settled_twice hk, settled_ck hk] at this : Calls Try.prog 24 #[.slice A n cap, .slice A1 m c1] V (Gives2 V (settleB l cs) 0)))
        have H := Lib.hid h
        have HC := Lib.hid hC
        have HMN := Lib.hid hmn
        clear hE hk h hC hmn
        generalize settleB l cs = F at *
        go_enter Try.func8, Try.ntmps8
        go_wp2_with (first
          | (go_at_call 15; (with_reducible refine K1.out.mono ?_); rintro y w ⟨rfl, rfl⟩)
          | (go_at_call 24; (with_reducible refine K2.out.mono ?_); rintro y w1 ⟨v, rfl, hrow, hb1⟩; rw [hFl.out] at hrow; obtain ⟨A1, cap1, rfl⟩ := own_form hrow; have hI1 := Lib.hid (ints_iv hFl.out hrow))
          | (go_at_call 24; (with_reducible refine (K3.out _ _ _ hb1 ⟨hI1.out, hFl.out, by unfold maxLen; omega⟩).mono ?_); rintro y w2 ⟨v2, rfl, hrow2, hb2⟩; rw [hFl.out] at hrow2; obtain ⟨A2, cap2, rfl⟩ := own_form hrow2; have hI2 := Lib.hid (ints_iv hFl.out hrow2)))
        have hI3 := Lib.hid (hI1.out.next hb2)
        have HB := Lib.hid (bmore hb1 hb2)
        clear hrow hrow2 hb1 hb2 hI1
        go_loopg [9] m (fun g s9 wr => ∃ i : Nat, i + g = m ∧ s9 = .int .i64 i ∧ Below w2.heap.size w2 wr)
        case atStart => exact ⟨0, by omega, rfl, Below.refl _ _⟩
        case round =>
          obtain ⟨i, hig, rfl, hb⟩ := hrel
          cases gk with
          | zero =>
            have hlt : ¬ ((i : Int) < (m : Int)) := by omega
            have KS := Lib.hid (same_eq A1 A2 cap1 cap2 m F wr (hI3.out.next hb) (hI2.out.next hb) hFl.out (by unfold maxLen; omega))
            go_wp2_with (first
              | (go_at_call 19; (with_reducible refine KS.out.mono ?_); rintro y w5 ⟨rfl, hb5⟩)
              | (go_at_call 16; (with_reducible refine (KL.out _).mono ?_); rintro y w6 ⟨rfl, hb6⟩))
            go_ret
            exact ⟨by first | rfl | simp_all, bmore HB.out (bmore hb (bmore hb5 hb6))⟩
          | succ g =>
            have i0 : (0 : Int) ≤ (i : Int) := by omega
            have i1 : (i : Int) < (m : Int) := by omega
            have i2 : (i : Int) < (n : Int) := by rw [← HMN.out]; exact i1
            have hl := HW.out i (by omega)
            obtain ⟨ad, rfl, h1, h2⟩ := ((HC.out.ints.next HB.out).next hb).at_ (k := i) (by rw [HC.out.len]; omega)
            obtain ⟨ad1, rfl, h3, h4⟩ := (hI3.out.next hb).at_ (k := i) (by rw [hFl.out]; omega)
            obtain ⟨ad2, B, c, rfl, g1, g2⟩ := (H.out.sts.next (bmore HB.out hb)).at_ (i := i) (by rw [H.out.len, ← HMN.out]; omega)
            have c4 := g2.c4
            clear g2
            generalize F.getD i 0 = f at *
            generalize cs.getD i 0 = z at *
            generalize stA l i = x at *
            rcases hl with (⟨e1, rfl⟩ | ⟨rfl, rfl⟩) | ⟨rfl, rfl, hes⟩
            · have e2 : (f != -1) = true := by unfold bne; rw [e1]; rfl
              have e3 : (f != f) = false := by simp
              go_wp2
              go_quiet (fail)
              go_wp2
              go_roundg g
              case measure => omega
              case rel => exact ⟨i + 1, by omega, by go_num, below_drewN' hb _⟩
            · go_wp2
              go_quiet (fail)
              go_wp2
              go_roundg g
              case measure => omega
              case rel => exact ⟨i + 1, by omega, by go_num, below_drewN' hb _⟩
            · have e3 : ((x.es.length : Int) == 0) = false := by rw [beq_eq_false_iff_ne]; omega
              go_wp2
              go_quiet (fail)
              go_wp2
              go_roundg g
              case measure => omega
              case rel => exact ⟨i + 1, by omega, by go_num, below_drewN' hb _⟩
      · have hE := Lib.hid (show stlL l cs = [] from by unfold stlL; rw [if_neg hk])
        have hc' : (ckB l cs == 0) = false := by simpa using hk
        have hc2 : (ckB l cs != 0) = true := by unfold bne; rw [hc']; rfl
        rw [hE.out] at K2
        generalize ckB l cs = c at *
        clear hk h hC
        go_enter Try.func8, Try.ntmps8
        go_wp2_with (first
          | (go_at_call 15; (with_reducible refine K1.out.mono ?_); rintro y w ⟨rfl, rfl⟩)
          | (go_at_call 24; (with_reducible refine K2.out.mono ?_); rintro y w1 ⟨v, rfl, hrow, hb1⟩; obtain ⟨A1, cap1, rfl⟩ := own_form hrow)
          | (go_at_call 16; (with_reducible refine (KL.out _).mono ?_); rintro y w6 ⟨rfl, hb6⟩))
        go_ret
        exact ⟨rfl, bmore hb1 hb6⟩
    · have hm40 : (m : Int) > 40 := by omega
      go_enter Try.func8, Try.ntmps8
      go_wp2_with (first
        | (go_at_call 15; (with_reducible refine K1.out.mono ?_); rintro y w ⟨rfl, rfl⟩)
        | (go_at_call 16; (with_reducible refine (KL.out _).mono ?_); rintro y w1 ⟨rfl, hb1⟩))
      go_ret
      exact ⟨rfl, hb1⟩
end Go.Proofs.Ytodgkjmkjahkiaa
