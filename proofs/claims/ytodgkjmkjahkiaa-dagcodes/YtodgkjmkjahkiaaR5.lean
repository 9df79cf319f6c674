/- The document's dag: Settle. -/
import Derived.Test.YtodgkjmkjahkiaaR4
namespace Go.Proofs.Ytodgkjmkjahkiaa
open Go.RowKit

/-- Codes on their way to being settled. -/
structure Inv (l : List St) (cs F : List Int) : Prop where
  len : F.length = l.length
  eq : ∀ p, p < l.length → F.getD p 0 ≠ -1 → F.getD p 0 = (settleB l cs).getD p 0
  opn : ∀ p, p < l.length → F.getD p 0 = -1 → cs.getD p 0 = -1
theorem Inv.start {l : List St} {cs : List Int} (h : ckB l cs = 0) : Inv l cs cs := by
  refine ⟨(ck_ok h).2.1, fun p hp hne => ?_, fun p _ e => e⟩
  rcases settled_at h hp with ⟨_, e⟩ | ⟨e, _⟩ | ⟨e, _⟩
  · exact e.symm
  · exact absurd e hne
  · exact absurd e hne
theorem Inv.range {l : List St} {cs F : List Int} (h : Inv l cs F) (hk : ckB l cs = 0) {j : Nat} (hj : j < l.length) : -1 ≤ F.getD j 0 ∧ F.getD j 0 ≤ 256 := by
  by_cases e : F.getD j 0 = -1
  · omega
  · rw [h.eq j hj e]
    exact ck_range (settled_ck hk) (by rw [settled_len, (ck_ok hk).2.1]; exact hj)
theorem step_doom {l : List St} {F : List Int} {i : Nat} : step1 l F i = if doomB l F i then F.set i 256 else F := rfl
theorem fails_src {l : List St} {cs : List Int} (hk : ckB l cs = 0) {i : Nat} (hi : i < l.length) {e : Ed} (he : e ∈ (stA l i).es) : ∃ j : Nat, e.s = j ∧ j < l.length := by
  obtain ⟨k, hkl, rfl⟩ := List.getElem_of_mem he
  have hed : (stA l i).es[k] = edA (stA l i).es k := by unfold edA; rw [List.getD_eq_getElem?_getD, List.getElem?_eq_getElem hkl]; rfl
  rw [hed]
  exact may_edge (check_ok (ck_ok hk).1).1 hi hkl
theorem fails_closed {e : Ed} {F : List Int} (h : failsB e F = true) : codeA F e.s ≠ -1 := by
  intro h2
  unfold failsB at h
  rw [h2] at h
  simp at h
theorem Inv.doom {l : List St} {cs F : List Int} (h : Inv l cs F) (hk : ckB l cs = 0) {i : Nat} (hi : i < l.length) (hd : doomB l F i = true) : (settleB l cs).getD i 0 = 256 := by
  obtain ⟨h1, e, he, hf⟩ := doom_iff.1 hd
  obtain ⟨j, hj, hjl⟩ := fails_src hk hi he
  have hc := fails_closed hf
  rw [hj, code_nat] at hc
  have hS : anyF l (settleB l cs) i := ⟨e, he, by rw [← fails_cong (F := F) (by rw [hj, code_nat, code_nat]; exact h.eq j hjl hc)]; exact hf⟩
  have hcs := h.opn i hi h1
  rcases settled_at hk hi with ⟨h2, _⟩ | ⟨_, _, h2⟩ | ⟨_, e2, _⟩
  · exact absurd hcs h2
  · exact absurd hS h2
  · exact e2
theorem Inv.step {l : List St} {cs F : List Int} (h : Inv l cs F) (hk : ckB l cs = 0) {i : Nat} (hi : i < l.length) : Inv l cs (step1 l F i) ∧ ∀ q : Nat, q < l.length → F.getD q 0 = (settleB l cs).getD q 0 → (step1 l F i).getD q 0 = (settleB l cs).getD q 0 := by
  rw [step_doom]
  cases hd : doomB l F i
  · exact ⟨h, fun q _ e => e⟩
  · have h2 := h.doom hk hi hd
    have hil : i < F.length := by rw [h.len]; exact hi
    simp only [if_true]
    refine ⟨⟨by rw [List.length_set]; exact h.len, fun p hp hne => ?_, fun p hp e => ?_⟩, fun q hq e => ?_⟩
    · by_cases hpi : p = i
      · subst hpi; rw [set_same hil, h2]
      · rw [set_other hpi] at hne ⊢; exact h.eq p hp hne
    · by_cases hpi : p = i
      · subst hpi; rw [set_same hil] at e; exact absurd e (by decide)
      · rw [set_other hpi] at e; exact h.opn p hp e
    · by_cases hqi : q = i
      · subst hqi; rw [set_same hil, h2]
      · rw [set_other hqi]; exact e
/-- The first places are settled. -/
def Tt (l : List St) (cs F : List Int) (t : Nat) : Prop := ∀ (j q : Nat), j < t → (placesB l)[j]? = some (q : Int) → F.getD q 0 = (settleB l cs).getD q 0
theorem Tt.step {l : List St} {cs F : List Int} {t : Nat} (h : Inv l cs F) (ht : Tt l cs F t) (hk : ckB l cs = 0) {i : Nat} (hi : i < l.length) : Tt l cs (step1 l F i) t := by
  intro j q hj hq
  have := (Good.places l j _ hq).1
  exact (h.step hk hi).2 q (by omega) (ht j q hj hq)
theorem Tt.here {l : List St} {cs F : List Int} {t i : Nat} (h : Inv l cs F) (ht : Tt l cs F t) (hk : ckB l cs = 0) (hx : (placesB l)[t]? = some (i : Int)) : (step1 l F i).getD i 0 = (settleB l cs).getD i 0 := by
  obtain ⟨h1, _, h3⟩ := Good.places l t _ hx
  have hi : i < l.length := by omega
  rw [step_doom]
  cases hd : doomB l F i
  · simp only [Bool.false_eq_true, if_false]
    by_cases e : F.getD i 0 = -1
    · have hno : ¬ anyF l F i := fun ha => by rw [doom_iff.2 ⟨(code_nat F i).trans e, ha⟩] at hd; cases hd
      have hS : ¬ anyF l (settleB l cs) i := by
        rw [← anyF_cong (F := F)]
        · exact hno
        · intro ed he
          obtain ⟨j, hj, hje⟩ := List.mem_take_iff_getElem.1 (h3 ed he)
          obtain ⟨s, hs, _⟩ := fails_src hk hi (e := ed) (by simpa using he)
          rw [hs, code_nat, code_nat]
          exact ht j s (by omega) (by rw [← hs, ← hje]; exact List.getElem?_eq_getElem _)
      have hcs := h.opn i hi e
      rcases settled_at hk hi with ⟨h4, _⟩ | ⟨_, e2, _⟩ | ⟨_, _, h4⟩
      · exact absurd hcs h4
      · rw [e, e2]
      · exact absurd h4 hS
    · exact h.eq i hi e
  · simp only [if_true]
    rw [set_same (by rw [h.len]; exact hi), h.doom hk hi hd]
theorem Tt.all {l : List St} {cs F : List Int} (h : Inv l cs F) (hk : ckB l cs = 0) (ht : Tt l cs F l.length) : F = settleB l cs := by
  have h1 := ck_ok hk
  refine code_ext (n := l.length) h.len (settled_len.trans h1.2.1) fun p hp hpl => ?_
  obtain ⟨i, rfl⟩ : ∃ i : Nat, p = i := ⟨p.toNat, by omega⟩
  have hm := (Good.places l).all (check_ok h1.1).2 (i := i) (by omega)
  obtain ⟨j, hj, e⟩ := List.getElem_of_mem hm
  rw [code_nat, code_nat]
  exact ht j i (by rw [← (check_ok h1.1).2]; exact hj) (by rw [← e]; exact List.getElem?_eq_getElem hj)
/-- A sweep that has come to a place. -/
def Sw (l : List St) (cs F : List Int) (t i : Nat) : Prop := Inv l cs F ∧ Tt l cs F t ∧ ∀ q : Nat, q < i → (placesB l)[t]? = some (q : Int) → F.getD q 0 = (settleB l cs).getD q 0
theorem Sw.step {l : List St} {cs F : List Int} {t i : Nat} (h : Sw l cs F t i) (hk : ckB l cs = 0) (hi : i < l.length) : Sw l cs (step1 l F i) t (i + 1) := by
  obtain ⟨h1, h2, h3⟩ := h
  refine ⟨(h1.step hk hi).1, h2.step h1 hk hi, fun q hq hx => ?_⟩
  by_cases e : q = i
  · subst e; exact h2.here h1 hk hx
  · exact (h1.step hk hi).2 q (by omega) (h3 q (by omega) hx)
theorem Sw.done {l : List St} {cs F : List Int} {t : Nat} (h : Sw l cs F t l.length) : Sw l cs F (t + 1) 0 := by
  obtain ⟨h1, h2, h3⟩ := h
  refine ⟨h1, fun j q hj hx => ?_, fun q hq => absurd hq (Nat.not_lt_zero _)⟩
  by_cases e : j = t
  · subst e
    have := (Good.places l _ _ hx).1
    exact h3 q (by omega) hx
  · exact h2 j q (by omega) hx
theorem Sw.start {l : List St} {cs : List Int} (hk : ckB l cs = 0) : Sw l cs cs 0 0 := ⟨Inv.start hk, fun _ _ h => absurd h (Nat.not_lt_zero _), fun _ h => absurd h (Nat.not_lt_zero _)⟩
theorem own_some' {w : World} {base n cap : Nat} {A : Option Addr} {xs : List Value} (h : w.ownsRow base 3 1 (.slice A n cap) n xs) (hn : 0 < n) : ∃ g, A = some ⟨g, 0, none⟩ ∧ base ≤ g ∧ g < w.heap.size := by
  rcases h.2 with ⟨h0, _⟩ | ⟨g, c, cu, h1, h2, h3, _⟩
  · cases h0; omega
  · cases h1; exact ⟨g, rfl, h2, (Array.getElem?_eq_some_iff.1 h3).1⟩
set_option maxRecDepth 100000 in
set_option maxHeartbeats 4000000 in
theorem rsettle_any (A C : Option Addr) (n cap m cc : Nat) (l : List St) (cs : List Int) (w : World) (h : Sl w A n cap l) (hC : Il w C m cs) :
    Calls Try.prog 25 #[.slice A n cap, .slice C m cc] w (Gives2 w (stlL l cs) (ckB l cs)) := by
  obtain ⟨ti, hi, hz0, hz1, hz2⟩ := info_parts info3
  have K1 := Lib.hid (rck_any A C n cap m cc l cs w h hC)
  by_cases hk : ckB l cs = 0
  · have hok := ck_ok hk
    have hmay := Lib.hid (check_ok hok.1).1
    have h1l := (may_len hmay.out).1
    have h16 := (may_len hmay.out).2
    rw [h.len] at h16 h1l
    obtain rfl : m = n := by rw [← hC.len, ← h.len, hok.2.1]
    have HR := Lib.hid (show stlL l cs = settleB l cs from by unfold stlL; rw [if_pos hk])
    have H := Lib.hid h
    have HC := Lib.hid hC
    have HK := Lib.hid hk
    have HCl := Lib.hid hC.len
    rw [hk] at K1 ⊢
    clear hk hok h hC
    go_enter Try.func25, Try.ntmps25
    go_wp2_with fail
    refine K1.out.mono ?_
    rintro y w2 ⟨rfl, hb2⟩
    have HA := Lib.hid (HC.out.ints.next hb2)
    obtain ⟨ad, rfl, _, _⟩ := HA.out.at_ (k := 0) (by rw [HCl.out]; omega)
    have HB2 := Lib.hid hb2
    clear hb2
    go_wp2_with (at_builtin; refine wpList_append_own _ rfl _ _ 28 rfl w2.heap.size 3 ti (.int .i64 0) 1 8 Try.underlying28 hi hz0 hz1 hz2 rfl (by decide) _ _ _ rfl (World.ownsRow_nil _ _ _ _) ad m cc (iv cs) rfl ?qc1 ?qc2 ?qc3 ?qc4 ?qc5 ?qc6 ?_)
    case qc1 => rw [iv_len, HCl.out]; simp
    case qc2 =>
      intro k u hu
      have hkn : k < cs.length := by
        have := (List.getElem?_eq_some_iff.1 hu).1
        rwa [iv_len] at this
      rw [(HA.out.cellAt hkn).1, ← hu]
      simp [iv, List.getD, hkn]
    case qc3 => intro u hu; obtain ⟨x, _, rfl⟩ := List.mem_map.1 hu; rfl
    case qc4 => unfold maxLen; omega
    case qc5 => omega
    case qc6 => simp
    intro v4 w4 hown4 hgrow4 _
    obtain ⟨A4, cap4, rfl⟩ := own_form hown4
    have hb4 : Below w2.heap.size w2 w4 := only_grown hgrow4
    have HB4 := Lib.hid (bmore HB2.out hb4)
    have hs24 := HB2.out.size
    have row4 := Joins.ownsRow_le hown4 hs24
    obtain ⟨g4, hg4, hg4a, hg4b⟩ := own_some' row4 (by omega)
    subst hg4
    have HG := Lib.hid hg4a
    clear hown4 hgrow4 hb4 hg4b hg4a
    go_wp2
    go_loopg [8] m (fun g s8 wr => ∃ (t : Nat) (F : List Int), t + g = m ∧ s8 = .int .i64 t ∧ wr.ownsRow w.heap.size 3 1 (.slice (some ⟨g4, 0, none⟩) m cap4) m (iv F) ∧ Hid (Sw l cs F t 0) ∧ Below w.heap.size w wr)
    case atStart => exact ⟨0, cs, by omega, rfl, row4, Lib.hid (Sw.start HK.out), HB4.out⟩
    case round =>
      obtain ⟨t, F, htg, rfl, hrow, HS, hb⟩ := hrel
      cases gk with
      | zero =>
        obtain rfl : t = m := by omega
        have hlt : ¬ ((t : Int) < (t : Int)) := by omega
        have HE := Lib.hid (show stlL l cs = F from by
          rw [HR.out]
          exact (Tt.all HS.out.1 HK.out (by rw [H.out.len]; exact HS.out.2.1)).symm)
        have HFl := Lib.hid (show F.length = t from by rw [HS.out.1.len, H.out.len])
        go_wp2
        go_ret2
        refine ⟨_, rfl, ?_, hb⟩
        rw [HE.out, HFl.out]
        exact hrow
      | succ g =>
        have t1 : (t : Int) < (m : Int) := by omega
        go_wp2
        go_loopg [9] m (fun g2 s9 wy => ∃ (i : Nat) (F : List Int), i + g2 = m ∧ s9 = .int .i64 i ∧ wy.ownsRow w.heap.size 3 1 (.slice (some ⟨g4, 0, none⟩) m cap4) m (iv F) ∧ Hid (Sw l cs F t i) ∧ Below w.heap.size w wy)
        case atStart => exact ⟨0, F, by omega, rfl, hrow, HS, hb⟩
        case round =>
          obtain ⟨i, F, hig, rfl, hrow, HS, hb⟩ := hrel
          cases gk with
          | zero =>
            have hlt : ¬ ((i : Int) < (m : Int)) := by omega
            have HN := Lib.hid (Sw.done (by have := HS.out; rwa [(show i = l.length from by rw [H.out.len]; omega)] at this))
            go_wp2
            go_roundg g
            case measure => omega
            case rel => exact ⟨t + 1, F, by omega, by go_num, hrow, HN, hb⟩
          | succ g2 =>
            have i0 : (0 : Int) ≤ (i : Int) := by omega
            have i1 : (i : Int) < (m : Int) := by omega
            have HFl := Lib.hid (show F.length = m from by rw [HS.out.1.len, H.out.len])
            have K := Lib.hid (doomed_any A (some ⟨g4, 0, none⟩) m cap cap4 l F i wr (H.out.next hb) ⟨ints_iv HFl.out hrow, HFl.out, by unfold maxLen; omega⟩ hmay.out (by omega) (fun j hj => HS.out.1.range HK.out (by rw [H.out.len]; exact hj)))
            have HN := Lib.hid (HS.out.step HK.out (by rw [H.out.len]; omega))
            have hsd := Lib.hid (step_doom (l := l) (F := F) (i := i))
            generalize doomB l F i = d at *
            cases d
            · have hE := Lib.hid (show step1 l F i = F from hsd.out)
              rw [hE.out] at HN
              go_wp2_with (go_at_call 53; (with_reducible refine K.out.mono ?_); rintro y w5 ⟨rfl, hb5⟩)
              go_roundg g2
              case measure => omega
              case rel => exact ⟨i + 1, F, by omega, by go_num, own_next hrow hb5, HN, bmore hb hb5⟩
            · have hE := Lib.hid (show step1 l F i = F.set i 256 from hsd.out)
              rw [hE.out] at HN
              go_wp2_with (go_at_call 53; (with_reducible refine K.out.mono ?_); rintro y w5 ⟨rfl, hb5⟩; have row5 := own_next hrow hb5; have d5 := (row5.cellAt i (by omega)).trans (iv_at (by rw [HFl.out]; omega)); have f5 := row5.frozenAt i)
              go_roundg g2
              case measure => omega
              case rel => exact ⟨i + 1, _, by omega, by go_num, by rw [iv_set]; exact (row5.stored i _).1, HN, (bmore hb hb5).setCell HG.out _⟩
  · have hT := Lib.hid (show stlL l cs = [] from by unfold stlL; rw [if_neg hk])
    have hc' : (ckB l cs == 0) = false := by simpa using hk
    have hc2 : (ckB l cs != 0) = true := by unfold bne; rw [hc']; rfl
    rw [hT.out]
    generalize ckB l cs = c at *
    clear hk
    go_enter Try.func25, Try.ntmps25
    go_wp2_with (go_at_call 49; (with_reducible refine K1.out.mono ?_); rintro y w1 ⟨rfl, hb1⟩)
    go_ret2
    exact ⟨_, rfl, World.ownsRow_nil _ _ _ _, hb1⟩
end Go.Proofs.Ytodgkjmkjahkiaa
