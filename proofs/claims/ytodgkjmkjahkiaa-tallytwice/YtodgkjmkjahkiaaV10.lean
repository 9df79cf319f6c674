/- The law on calls done twice. -/
import Derived.Test.YtodgkjmkjahkiaaV9
namespace Go.Proofs.Ytodgkjmkjahkiaa
open Go.RowKit Go.Maps

theorem voteT_twice (T : Tv) (hl : T.vs.length = T.ns.length) (n : Int) (y : Bool) : voteT (voteT T n y) n y = voteT T n y := by
  rcases voteT_cases T n y with e | ⟨i, hx, _, _, _, e⟩
  · rw [e, e]
  · rw [e]
    unfold voteT
    simp only [hx]
    rw [if_pos (set_same (by rw [hl]; exact (ixN_some hx).1))]
theorem exitT_twice (T : Tv) (hl : T.cs.length = T.ns.length) (n c : Int) : exitT (exitT T n c) n c = exitT T n c := by
  rcases exitT_cases T n c with e | ⟨i, hx, _, _, _, h0, h1, e⟩
  · rw [e, e]
  · rw [e]
    unfold exitT
    simp only [hx]
    rw [if_neg (by omega), if_pos (set_same (by rw [hl]; exact (ixN_some hx).1))]
theorem opT_twice {T : Tv} (hv : T.vs.length = T.ns.length) (hc : T.cs.length = T.ns.length) (o : Op4) : opT (opT T o) o = opT T o := by
  obtain ⟨v, n, y, c⟩ := o
  cases v
  · exact exitT_twice T hc n c
  · exact voteT_twice T hv n y
/-- The blocks of a value's row are not the other's. -/
def Ap (u v : Value) : Prop := ∀ g, u.ownBlock = some g → v.ownBlock ≠ some g
theorem Ap.symm {u v : Value} (h : Ap u v) : Ap v u := fun g e1 e2 => h g e2 e1
/-- Two pairs, apart. -/
structure Tw (w0 w : World) (p bv bc q : Nat) (va vb vc : Value) (p2 bv2 bc2 q2 : Nat) (va2 vb2 vc2 : Value) (n k : Nat) (T U : Tv) (S : Nat → Prop) : Prop where
  a : Pr w p bv bc q va vb vc n k T S
  b : Pr w p2 bv2 bc2 q2 va2 vb2 vc2 n k U S
  nvv : bv ≠ bv2
  nvc : bv ≠ bc2
  ncv : bc ≠ bv2
  ncc : bc ≠ bc2
  pba : Ap vb va2
  pbb : Ap vb vb2
  pbc : Ap vb vc2
  pca : Ap vc va2
  pcb : Ap vc vb2
  pcc : Ap vc vc2
  pab : Ap va vb2
  pac : Ap va vc2
  low : Below w0.heap.size w0 w
  xa : ∀ g, XP bv bc vb vc g → w0.heap.size ≤ g
  xb : ∀ g, XP bv2 bc2 vb2 vc2 g → w0.heap.size ≤ g
section
variable {w0 w w' : World} {p bv bc q p2 bv2 bc2 q2 n k : Nat} {va vb vc va2 vb2 vc2 : Value} {T U : Tv} {S : Nat → Prop}
theorem Tw.next (h : Tw w0 w p bv bc q va vb vc p2 bv2 bc2 q2 va2 vb2 vc2 n k T U S) (hb : Below w.heap.size w w') : Tw w0 w' p bv bc q va vb vc p2 bv2 bc2 q2 va2 vb2 vc2 n k T U S :=
  ⟨h.a.next hb, h.b.next hb, h.nvv, h.nvc, h.ncv, h.ncc, h.pba, h.pbb, h.pbc, h.pca, h.pcb, h.pcc, h.pab, h.pac, bmore h.low hb, h.xa, h.xb⟩
theorem Tw.swap (h : Tw w0 w p bv bc q va vb vc p2 bv2 bc2 q2 va2 vb2 vc2 n k T U S) : Tw w0 w p2 bv2 bc2 q2 va2 vb2 vc2 p bv bc q va vb vc n k U T S :=
  ⟨h.b, h.a, h.nvv.symm, h.ncv.symm, h.nvc.symm, h.ncc.symm, h.pab.symm, h.pbb.symm, h.pcb.symm, h.pac.symm, h.pbc.symm, h.pcc.symm, h.pba.symm, h.pca.symm, h.low, h.xb, h.xa⟩
theorem Tw.doesA (h : Tw w0 w p bv bc q va vb vc p2 bv2 bc2 q2 va2 vb2 vc2 n k T U S) (hk : k ≤ 900) (o : Op4) :
    Calls Try.prog 32 #[.pointer (some ⟨p, 0, none⟩), .pointer (some ⟨q, 0, none⟩), .agg o.cs] w fun e w' => e = .returned (.bool true) ∧ Tw w0 w' p bv bc q va vb vc p2 bv2 bc2 q2 va2 vb2 vc2 n (k + 1) (opT T o) U S := by
  refine (does_any h.a hk o).mono ?_
  rintro e w' ⟨rfl, h1, ht⟩
  refine ⟨rfl, h1, (h.b.td ht fun g hg => ?_).few (by omega), h.nvv, h.nvc, h.ncv, h.ncc, h.pba, h.pbb, h.pbc, h.pca, h.pcb, h.pcc, h.pab, h.pac, h.low.trans (ht.low h.low.size h.xa), h.xa, h.xb⟩
  rcases hg with rfl | rfl | e | e
  · exact .inl ⟨h.a.mps.1, h.nvv, h.nvc⟩
  · exact .inl ⟨h.a.mps.2, h.ncv, h.ncc⟩
  · exact .inr ⟨h.a.sb g e, row_bk h.a.r.r.rb e, h.pba g e, h.pbb g e, h.pbc g e⟩
  · exact .inr ⟨h.a.sc g e, row_bk h.a.r.r.rc e, h.pca g e, h.pcb g e, h.pcc g e⟩
theorem Tw.doesB (h : Tw w0 w p bv bc q va vb vc p2 bv2 bc2 q2 va2 vb2 vc2 n k T U S) (hk : k ≤ 900) (o : Op4) :
    Calls Try.prog 32 #[.pointer (some ⟨p2, 0, none⟩), .pointer (some ⟨q2, 0, none⟩), .agg o.cs] w fun e w' => e = .returned (.bool true) ∧ Tw w0 w' p bv bc q va vb vc p2 bv2 bc2 q2 va2 vb2 vc2 n (k + 1) T (opT U o) S :=
  (h.swap.doesA hk o).mono fun _ _ ⟨r1, r2⟩ => ⟨r1, r2.swap⟩
end
/-- Two pairs, made one behind the other. -/
theorem tw_new {w w1 w2 w3 w4 : World} {p bv bc q p2 bv2 bc2 q2 n : Nat} {va vb vc va2 vb2 vc2 : Value} {zs : List Int}
    (hok : okN zs = true) (hl : zs.length = n)
    (h0 : Below w.heap.size w w1)
    (hT : TalAt w1 p bv bc 0 ⟨zs, List.replicate n 0, List.replicate n (-1)⟩) (l1 : w.heap.size ≤ bv ∧ w.heap.size ≤ bc)
    (h1 : Below w1.heap.size w1 w2)
    (hU : TalAt w2 p2 bv2 bc2 0 ⟨zs, List.replicate n 0, List.replicate n (-1)⟩) (l2 : w1.heap.size ≤ bv2 ∧ w1.heap.size ≤ bc2)
    (h2 : Below w2.heap.size w2 w3)
    (hR : RIn w3 q va vb vc n n n zs (List.replicate n 0) (List.replicate n (-1))) (l3 : w2.heap.size ≤ q)
    (h3 : Below w3.heap.size w3 w4)
    (hQ : RIn w4 q2 va2 vb2 vc2 n n n zs (List.replicate n 0) (List.replicate n (-1))) (l4 : w3.heap.size ≤ q2) :
    ∃ S, Tw w w4 p bv bc q va vb vc p2 bv2 bc2 q2 va2 vb2 vc2 n 0 ⟨zs, List.replicate n 0, List.replicate n (-1)⟩ ⟨zs, List.replicate n 0, List.replicate n (-1)⟩ S := by
  have s0 := h0.size
  have s1 := h1.size
  have s2 := h2.size
  have s3 := h3.size
  obtain ⟨⟨_, _, _, m1⟩, ⟨_, _, _, m2⟩⟩ := hT.maps
  have e1 := m1.lt
  have e2 := m2.lt
  have A0 := fun g (e : va.ownBlock = some g) => own_blk hR.ra e
  have A1 := fun g (e : vb.ownBlock = some g) => own_blk hR.rb e
  have A2 := fun g (e : vc.ownBlock = some g) => own_blk hR.rc e
  have B0 := fun g (e : va2.ownBlock = some g) => own_blk hQ.ra e
  have B1 := fun g (e : vb2.ownBlock = some g) => own_blk hQ.rb e
  have B2 := fun g (e : vc2.ownBlock = some g) => own_blk hQ.rc e
  have r := (new_tal hR hok hl).next h3
  have r2 := new_tal hQ hok hl
  refine ⟨fun g => SS vb vc g ∨ SS vb2 vc2 g, ⟨((hT.x fun g hg => ?_).next h1 |>.next h2).next h3, r, fun _ e => .inl (.inl e), fun _ e => .inl (.inr e), ?_⟩, ⟨((hU.x fun g hg => ?_).next h2).next h3, r2, fun _ e => .inr (.inl e), fun _ e => .inr (.inr e), ?_⟩, by omega, by omega, by omega, by omega, ?_, ?_, ?_, ?_, ?_, ?_, ?_, ?_, bmore (bmore (bmore h0 h1) h2) h3, ?_, ?_⟩
  · rcases hg with (e | e) | (e | e)
    · have := A1 g e; omega
    · have := A2 g e; omega
    · have := B1 g e; omega
    · have := B2 g e; omega
  · rintro g ((e | e) | (e | e))
    · have := A1 g e; omega
    · have := A2 g e; omega
    · exact (B1 g e).2
    · exact (B2 g e).2
  · rcases hg with (e | e) | (e | e)
    · have := A1 g e; omega
    · have := A2 g e; omega
    · have := B1 g e; omega
    · have := B2 g e; omega
  · rintro g ((e | e) | (e | e))
    · have := A1 g e; omega
    · have := A2 g e; omega
    · exact (B1 g e).2
    · exact (B2 g e).2
  · intro g e f; have := A1 g e; have := B0 g f; omega
  · intro g e f; have := A1 g e; have := B1 g f; omega
  · intro g e f; have := A1 g e; have := B2 g f; omega
  · intro g e f; have := A2 g e; have := B0 g f; omega
  · intro g e f; have := A2 g e; have := B1 g f; omega
  · intro g e f; have := A2 g e; have := B2 g f; omega
  · intro g e f; have := A0 g e; have := B1 g f; omega
  · intro g e f; have := A0 g e; have := B2 g f; omega
  · rintro g (rfl | rfl | e | e)
    · exact l1.1
    · exact l1.2
    · have := A1 g e; omega
    · have := A2 g e; omega
  · rintro g (rfl | rfl | e | e)
    · have := l2.1; omega
    · have := l2.2; omega
    · have := B1 g e; omega
    · have := B2 g e; omega
set_option maxRecDepth 100000 in
set_option maxHeartbeats 8000000 in
theorem twice_law (A S : Option Addr) (n cap m cs : Nat) (zs : List Int) (os : List Op4) (w : World) (h : Il w A n zs) (hS : Sc w S m os) :
    Calls Try.prog 11 #[.slice A n cap, .slice S m cs] w fun e w' => e = .returned (.bool true) ∧ Below w.heap.size w w' := by
  have KL := Lib.hid tlive_any
  have hm1 := hS.most
  have hn1 := h.most
  unfold maxLen at hm1 hn1
  have HI := Lib.hid h
  have HS := Lib.hid hS
  clear h hS
  by_cases gm : m > 60
  · have gm' : (m : Int) > 60 := by omega
    go_enter Try.func11, Try.ntmps11
    go_wp2_with (go_at_call 29; (with_reducible refine (KL.out _).mono ?_); rintro _ w9 ⟨rfl, hb9⟩)
    go_ret
    exact ⟨rfl, hb9⟩
  · have gm' : ¬ ((m : Int) > 60) := by omega
    by_cases gn : n > 16
    · have gn' : (n : Int) > 16 := by omega
      go_enter Try.func11, Try.ntmps11
      go_wp2_with (go_at_call 29; (with_reducible refine (KL.out _).mono ?_); rintro _ w9 ⟨rfl, hb9⟩)
      go_ret
      exact ⟨rfl, hb9⟩
    · have gn' : ¬ ((n : Int) > 16) := by omega
      go_enter Try.func11, Try.ntmps11
      go_wp2_with fail
      refine (rnew_any A n cap zs w HI.out).mono ?_
      rintro _ w1 ⟨(⟨hno, rfl⟩ | ⟨hok, q0, va0, vb0, vc0, rfl, _, _⟩), hb1⟩
      · go_wp2_with (go_at_call 29; (with_reducible refine (KL.out _).mono ?_); rintro _ w9 ⟨rfl, hb9⟩)
        go_ret
        exact ⟨rfl, bmore hb1 hb9⟩
      · have HOK := Lib.hid hok
        clear hok
        go_wp2_with fail
        refine (tnew_any A n cap zs w1 (HI.out.next hb1)).mono ?_
        rintro _ w2 ⟨(⟨hno, _⟩ | ⟨_, p, bv, bc, rfl, hT, _, hv, hc⟩), hb2⟩
        · exact absurd hno (by rw [HOK.out]; simp)
        have HB2 := Lib.hid (bmore hb1 hb2)
        have G1 := Lib.hid (And.intro hT (And.intro hv hc))
        have G1b := Lib.hid hb2
        have s1 := hb1.size
        clear hT hv hc hb2
        go_wp2_with fail
        refine (tnew_any A n cap zs w2 (HI.out.next HB2.out)).mono ?_
        rintro _ w3 ⟨(⟨hno, _⟩ | ⟨_, p2, bv2, bc2, rfl, hT, _, hv, hc⟩), hb3⟩
        · exact absurd hno (by rw [HOK.out]; simp)
        have HB3 := Lib.hid (bmore HB2.out hb3)
        have G2 := Lib.hid (And.intro hb3 (And.intro hT (And.intro hv hc)))
        clear hT hv hc hb3
        go_wp2_with fail
        refine (rnew_any A n cap zs w3 (HI.out.next HB3.out)).mono ?_
        rintro _ w4 ⟨(⟨hno, _⟩ | ⟨_, q, va, vb, vc, rfl, hR, hq⟩), hb4⟩
        · exact absurd hno (by rw [HOK.out]; simp)
        have HB4 := Lib.hid (bmore HB3.out hb4)
        have G3 := Lib.hid (And.intro hb4 (And.intro hR hq))
        clear hR hq hb4
        go_wp2_with fail
        refine (rnew_any A n cap zs w4 (HI.out.next HB4.out)).mono ?_
        rintro _ w5 ⟨(⟨hno, _⟩ | ⟨_, q2, va2, vb2, vc2, rfl, hR, hq⟩), hb5⟩
        · exact absurd hno (by rw [HOK.out]; simp)
        obtain ⟨SB, hTw⟩ := tw_new HOK.out HI.out.len G1b.out G1.out.1 G1.out.2 G2.out.1 G2.out.2.1 G2.out.2.2 G3.out.1 G3.out.2.1 G3.out.2.2 hb5 hR hq
        have HT := Lib.hid hTw
        have HB1 := Lib.hid hb1
        clear HB2 HB3 HB4 G1 G1b G2 G3 hR hq hb5 hTw hb1
        go_wp2
        go_loopg [9] m (fun g s9 wr => ∃ (i : Nat) (T : Tv), i + g = m ∧ s9 = .int .i64 i ∧ Hid (Tw w1 wr p bv bc q va vb vc p2 bv2 bc2 q2 va2 vb2 vc2 n (3 * i) T T SB))
        case atStart => exact ⟨0, _, by omega, rfl, HT⟩
        case round =>
          clear HT
          obtain ⟨i, T, hig, rfl, HT⟩ := hrel
          cases gk with
          | zero =>
            have hlt : ¬ ((i : Int) < (m : Int)) := by omega
            go_wp2_with (go_at_call 29; (with_reducible refine (KL.out _).mono ?_); rintro _ w9 ⟨rfl, hb9⟩)
            go_ret
            exact ⟨rfl, bmore HB1.out (bmore HT.out.low hb9)⟩
          | succ g =>
            have i0 : (0 : Int) ≤ (i : Int) := by omega
            have i1 : (i : Int) < (m : Int) := by omega
            have HC := Lib.hid (show ∀ V, Below w1.heap.size w1 V → ∃ ad, S = some ad ∧ ad.block < V.heap.size ∧ OpAt V (ad.add (i * 4)) (opA os i) from fun V hV => (HS.out.next (bmore HB1.out hV)).at' (i := i) (by omega))
            obtain ⟨ad, rfl, h1, ⟨c0, c1, c2, c3⟩⟩ := HC.out _ HT.out.low
            have HC2 := Lib.hid (show ∀ V, Below w1.heap.size w1 V → ad.block < V.heap.size ∧ OpAt V (ad.add (i * 4)) (opA os i) from fun V hV => by
              obtain ⟨ad', e, r⟩ := HC.out V hV
              cases e
              exact r)
            have HE := Lib.hid (opT_twice (T := T) (by rw [HT.out.a.r.lv, HT.out.a.r.ln]) (by rw [HT.out.a.r.lc, HT.out.a.r.ln]) (opA os i))
            have KD := Lib.hid (HT.out.doesA (by omega) (opA os i))
            clear HC
            generalize opA os i = o at *
            obtain ⟨ov, on, oy, oc⟩ := o
            dsimp only [Op4.cs] at c0 c1 c2 c3 KD
            go_wp2_with fail
            refine KD.out.mono ?_
            rintro _ w6 ⟨rfl, hP⟩
            replace HT := Lib.hid hP
            clear hP KD c0 c1 c2 c3 h1
            obtain ⟨h1, ⟨c0, c1, c2, c3⟩⟩ := HC2.out _ HT.out.low
            have KD := Lib.hid (HT.out.doesB (by omega) ⟨ov, on, oy, oc⟩)
            dsimp only [Op4.cs] at c0 c1 c2 c3 KD
            go_wp2_with fail
            refine KD.out.mono ?_
            rintro _ w7 ⟨rfl, hP⟩
            replace HT := Lib.hid hP
            clear hP KD c0 c1 c2 c3 h1
            obtain ⟨h1, ⟨c0, c1, c2, c3⟩⟩ := HC2.out _ HT.out.low
            have KD := Lib.hid (HT.out.doesB (by omega) ⟨ov, on, oy, oc⟩)
            rw [HE.out] at KD
            dsimp only [Op4.cs] at c0 c1 c2 c3 KD
            clear HE
            generalize opT T ⟨ov, on, oy, oc⟩ = T2 at *
            go_wp2_with fail
            refine KD.out.mono ?_
            rintro _ w8 ⟨rfl, hP⟩
            replace HT := Lib.hid hP
            clear hP KD c0 c1 c2 c3 h1 HC2
            go_wp2_with fail
            refine (state_any HT.out.a.t.tal).mono ?_
            rintro _ w3 ⟨rfl, h⟩
            replace HT := Lib.hid (HT.out.next h)
            clear h
            go_wp2_with fail
            refine (state_any HT.out.b.t.tal).mono ?_
            rintro _ w3 ⟨rfl, h⟩
            replace HT := Lib.hid (HT.out.next h)
            clear h
            go_wp2_with fail
            refine (code_any HT.out.a.t.tal).mono ?_
            rintro _ w3 ⟨rfl, h⟩
            replace HT := Lib.hid (HT.out.next h)
            clear h
            go_wp2_with fail
            refine (code_any HT.out.b.t.tal).mono ?_
            rintro _ w3 ⟨rfl, h⟩
            replace HT := Lib.hid (HT.out.next h)
            clear h
            go_wp2_with fail
            refine (missing_any HT.out.a.t.tal).mono ?_
            rintro _ w3 ⟨v, rfl, row, h⟩
            obtain ⟨A1, k1, rfl⟩ := own_form row
            replace HT := Lib.hid (HT.out.next h)
            have I1 := Lib.hid (ints_iv rfl row)
            clear h row
            go_wp2_with fail
            refine (missing_any HT.out.b.t.tal).mono ?_
            rintro _ w3 ⟨v, rfl, row, h⟩
            obtain ⟨A2, k2, rfl⟩ := own_form row
            replace HT := Lib.hid (HT.out.next h)
            replace I1 := Lib.hid (I1.out.next h)
            have I2 := Lib.hid (ints_iv rfl row)
            clear h row
            go_wp2_with fail
            refine (same_eq A1 A2 k1 k2 _ T2.miss _ I1.out I2.out rfl (by have := miss_len T2; have := HT.out.a.r.ln; unfold maxLen; omega)).mono ?_
            rintro _ w7 ⟨rfl, h⟩
            replace HT := Lib.hid (HT.out.next h)
            clear h I1 I2
            go_wp2_with fail
            go_roundg g
            case measure => omega
            case rel => exact ⟨i + 1, T2, by omega, by go_num, HT⟩
end Go.Proofs.Ytodgkjmkjahkiaa
