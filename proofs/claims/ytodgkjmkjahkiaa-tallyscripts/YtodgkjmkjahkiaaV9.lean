/- The law on scripts of calls. -/
import Derived.Test.YtodgkjmkjahkiaaV8
namespace Go.Proofs.Ytodgkjmkjahkiaa
open Go.RowKit Go.Maps

theorem TalAt.x {w : World} {p bv bc k : Nat} {T : Tv} {S : Nat → Prop} (h : TalAt w p bv bc k T) (hS : ∀ g, S g → w.heap.size ≤ g) : TalX w p bv bc k T S := by
  obtain ⟨A, m, c, V, C, h⟩ := h
  refine ⟨A, m, c, V, C, h, fun a ha hs => ?_, fun x hx hs => ?_⟩
  · have hp := (okN_iff.1 h.ok).2
    rcases h.ints.ints with e | ⟨ad, e, g1, _⟩
    · rw [e] at hp; cases hp
    · rw [ha] at e
      cases e
      have := hS _ hs
      omega
  · have := hS _ hs
    have := (h.mc.cells x hx).lt
    omega
theorem new_tal {w : World} {q n : Nat} {va vb vc : Value} {zs : List Int} (hR : RIn w q va vb vc n n n zs (List.replicate n 0) (List.replicate n (-1))) (hok : okN zs = true) (hl : zs.length = n) : RTal w q va vb vc n ⟨zs, List.replicate n 0, List.replicate n (-1)⟩ := by
  have h1 := okN_len hok
  have h2 := (okN_iff.1 hok).2
  exact ⟨hR, hl, by simp, by simp, by omega, by omega⟩
def SS (vb vc : Value) (g : Nat) : Prop := vb.ownBlock = some g ∨ vc.ownBlock = some g
theorem pr_new {w1 w2 : World} {p bv bc q n : Nat} {va vb vc : Value} {zs : List Int} (hT : TalAt w1 p bv bc 0 ⟨zs, List.replicate n 0, List.replicate n (-1)⟩) (hR : RIn w2 q va vb vc n n n zs (List.replicate n 0) (List.replicate n (-1))) (hb : Below w1.heap.size w1 w2) (hq : w1.heap.size ≤ q) (hok : okN zs = true) (hl : zs.length = n) : Pr w2 p bv bc q va vb vc n 0 ⟨zs, List.replicate n 0, List.replicate n (-1)⟩ (SS vb vc) := by
  have r := new_tal hR hok hl
  have hS : ∀ g, SS vb vc g → q + 1 ≤ g ∧ g < w2.heap.size := fun g hg => by
    rcases hg with e | e
    · exact own_blk hR.rb e
    · exact own_blk hR.rc e
  exact ⟨(hT.x fun g hg => by have := hS g hg; omega).next hb, r, fun _ e => .inl e, fun _ e => .inr e, fun g hg => (hS g hg).2⟩
theorem miss_len (T : Tv) : T.miss.length ≤ T.ns.length := by
  rw [← miss_eq]
  exact selR_le
theorem opT_ns (T : Tv) (o : Op4) : (opT T o).ns = T.ns := by
  unfold opT
  split
  · exact voteT_ns T _ _
  · exact exitT_ns T _ _
set_option maxRecDepth 100000 in
set_option maxHeartbeats 8000000 in
theorem scripts_law (A S : Option Addr) (n cap m cs : Nat) (zs : List Int) (os : List Op4) (w : World) (h : Il w A n zs) (hS : Sc w S m os) :
    Calls Try.prog 9 #[.slice A n cap, .slice S m cs] w fun e w' => e = .returned (.bool true) ∧ Below w.heap.size w w' := by
  have KL := Lib.hid tlive_any
  have hm1 := hS.most
  have hn1 := h.most
  unfold maxLen at hm1 hn1
  have HI := Lib.hid h
  have HS := Lib.hid hS
  clear h hS
  by_cases gm : m > 100
  · have gm' : (m : Int) > 100 := by omega
    go_enter Try.func9, Try.ntmps9
    go_wp2_with (go_at_call 29; (with_reducible refine (KL.out _).mono ?_); rintro _ w9 ⟨rfl, hb9⟩)
    go_ret
    exact ⟨rfl, hb9⟩
  · have gm' : ¬ ((m : Int) > 100) := by omega
    by_cases gn : n > 100
    · have gn' : (n : Int) > 100 := by omega
      go_enter Try.func9, Try.ntmps9
      go_wp2_with (go_at_call 29; (with_reducible refine (KL.out _).mono ?_); rintro _ w9 ⟨rfl, hb9⟩)
      go_ret
      exact ⟨rfl, hb9⟩
    · have gn' : ¬ ((n : Int) > 100) := by omega
      go_enter Try.func9, Try.ntmps9
      go_wp2_with fail
      refine (tnew_any A n cap zs w HI.out).mono ?_
      rintro _ w1 ⟨(⟨hno, rfl⟩ | ⟨hok, p, bv, bc, rfl, hT, hp, hv, hc⟩), hb1⟩
      · go_wp2_with fail
        refine (rnew_any A n cap zs w1 (HI.out.next hb1)).mono ?_
        rintro _ w2 ⟨(⟨_, rfl⟩ | ⟨hok, _⟩), hb2⟩
        · go_wp2_with (go_at_call 29; (with_reducible refine (KL.out _).mono ?_); rintro _ w9 ⟨rfl, hb9⟩)
          go_ret
          exact ⟨rfl, bmore (bmore hb1 hb2) hb9⟩
        · exact absurd hok (by rw [hno]; simp)
      · go_wp2_with fail
        refine (rnew_any A n cap zs w1 (HI.out.next hb1)).mono ?_
        rintro _ w2 ⟨(⟨hno, _⟩ | ⟨_, q, va, vb, vc, rfl, hR, hq⟩), hb2⟩
        · exact absurd hok (by rw [hno]; simp)
        have hP0 := Lib.hid (pr_new hT hR hb2 hq hok HI.out.len)
        have HX := Lib.hid (show ∀ g, XP bv bc vb vc g → w.heap.size ≤ g from by
          have := hb1.size
          intro g hg
          rcases hg with rfl | rfl | e | e
          · exact hv
          · exact hc
          · have := (own_blk hR.rb e).1; omega
          · have := (own_blk hR.rc e).1; omega)
        have HB0 := Lib.hid (bmore hb1 hb2)
        have hn16 := okN_len hok
        rw [HI.out.len] at hn16
        clear hT hR hp hv hc hq hb1 hb2 hok
        go_wp2
        go_loopg [7] m (fun g s7 wr => ∃ (i : Nat) (T : Tv), i + g = m ∧ s7 = .int .i64 i ∧ Hid (Pr wr p bv bc q va vb vc n i T (SS vb vc)) ∧ Below w.heap.size w wr)
        case atStart => exact ⟨0, _, by omega, rfl, hP0, HB0.out⟩
        case round =>
          clear hP0 HB0
          obtain ⟨i, T, hig, rfl, HP, hb⟩ := hrel
          cases gk with
          | zero =>
            have hlt : ¬ ((i : Int) < (m : Int)) := by omega
            have K1 := Lib.hid (worst_any A n cap zs wr (HI.out.next hb))
            have K2 := Lib.hid (rworst_any A n cap zs wr (HI.out.next hb))
            go_wp2_with (first
              | (go_at_call 39; (with_reducible refine K1.out.mono ?_); rintro _ wr ⟨rfl, rfl⟩)
              | (go_at_call 40; (with_reducible refine K2.out.mono ?_); rintro _ wr ⟨rfl, rfl⟩)
              | (go_at_call 29; (with_reducible refine (KL.out _).mono ?_); rintro _ w9 ⟨rfl, hb9⟩))
            go_ret
            exact ⟨by first | rfl | simp_all, bmore hb hb9⟩
          | succ g =>
            have i0 : (0 : Int) ≤ (i : Int) := by omega
            have i1 : (i : Int) < (m : Int) := by omega
            obtain ⟨ad, rfl, h1, ⟨c0, c1, c2, c3⟩⟩ := (HS.out.next hb).at' (i := i) (by omega)
            have KD := Lib.hid (does_any HP.out (by omega) (opA os i))
            generalize opA os i = o at *
            obtain ⟨ov, on, oy, oc⟩ := o
            dsimp only [Op4.cs] at c0 c1 c2 c3 KD
            generalize opT T ⟨ov, on, oy, oc⟩ = T2 at *
            go_wp2_with fail
            refine KD.out.mono ?_
            rintro _ w2 ⟨rfl, hP, ht⟩
            replace hb := hb.trans (ht.low hb.size HX.out)
            replace HP := Lib.hid hP
            clear hP ht KD c0 c1 c2 c3 h1
            go_wp2_with fail
            refine (state_any HP.out.t.tal).mono ?_
            rintro _ w3 ⟨rfl, h⟩
            replace HP := Lib.hid (HP.out.next h)
            replace hb := bmore hb h
            clear h
            go_wp2_with fail
            refine (rstate_any HP.out.r).mono ?_
            rintro _ w3 ⟨rfl, rfl⟩
            go_wp2_with fail
            refine (code_any HP.out.t.tal).mono ?_
            rintro _ w4 ⟨rfl, h⟩
            replace HP := Lib.hid (HP.out.next h)
            replace hb := bmore hb h
            clear h
            go_wp2_with fail
            refine (rcode_any HP.out.r).mono ?_
            rintro _ w4 ⟨rfl, rfl⟩
            go_wp2_with fail
            refine (missing_any HP.out.t.tal).mono ?_
            rintro _ w5 ⟨v, rfl, row, h⟩
            obtain ⟨A1, k1, rfl⟩ := own_form row
            replace HP := Lib.hid (HP.out.next h)
            replace hb := bmore hb h
            have I1 := Lib.hid (ints_iv rfl row)
            clear h row
            go_wp2_with fail
            refine (rmissing_any HP.out.r).mono ?_
            rintro _ w6 ⟨v, rfl, row, h⟩
            obtain ⟨A2, k2, rfl⟩ := own_form row
            replace HP := Lib.hid (HP.out.next h)
            replace hb := bmore hb h
            replace I1 := Lib.hid (I1.out.next h)
            have I2 := Lib.hid (ints_iv rfl row)
            clear h row
            go_wp2_with fail
            refine (same_eq A1 A2 k1 k2 _ T2.miss _ I1.out I2.out rfl (by have := miss_len T2; have := HP.out.r.ln; unfold maxLen; omega)).mono ?_
            rintro _ w7 ⟨rfl, h⟩
            replace HP := Lib.hid (HP.out.next h)
            replace hb := bmore hb h
            clear h I1 I2
            go_wp2_with fail
            go_roundg g
            case measure => omega
            case rel => exact ⟨i + 1, T2, by omega, by go_num, HP, hb⟩
end Go.Proofs.Ytodgkjmkjahkiaa
