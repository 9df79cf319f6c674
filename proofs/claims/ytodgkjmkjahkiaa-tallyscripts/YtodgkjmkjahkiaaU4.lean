/- The law on one way. -/
import Derived.Test.YtodgkjmkjahkiaaU2
import Derived.Test.YtodgkjmkjahkiaaU3
import Derived.Test.YtodgkjmkjahkiaaR2
namespace Go.Proofs.Ytodgkjmkjahkiaa
open Go.RowKit Go.Maps

theorem own_mv {w w' : World} {base size n : Nat} {e : TypeId} {v : Value} {xs : List Value} (h : w.ownsRow base e size v n xs) (m : Mv w w') : w'.ownsRow base e size v n xs := by
  obtain ⟨b, k, t, L, hm, hg⟩ := m
  refine own_kept h hg fun g e1 e2 => ?_
  rcases h.2 with ⟨rfl, _⟩ | ⟨g', c, cu, rfl, _, h3, _⟩
  · simp [Value.ownBlock] at e1
  · have e3 : g' = g := by simpa [Value.ownBlock] using e1
    subst e3
    cases e2
    exact (hm.ne (show Bk w _ e cu from h3)) rfl
theorem Sc.mv {w w' : World} {A : Option Addr} {n : Nat} {os : List Op4} (h : Sc w A n os) (m : Mv w w') : Sc w' A n os := by
  obtain ⟨b, k, t, L, hm, hg⟩ := m
  refine ⟨?_, h.len, h.most⟩
  rcases h.at_ with e | ⟨ad, e, h1, h2⟩
  · exact .inl e
  · refine .inr ⟨ad, e, Nat.lt_of_lt_of_le h1 hg.size, fun i hi => ?_⟩
    have q := h2 i hi
    have hne : ad.block ≠ b := by
      have := hm.cell_ne q.c0
      rwa [block_add] at this
    have hB : ∀ o : Nat, w'.cell? ⟨(ad.add (i * 4)).block, o, none⟩ = w.cell? ⟨(ad.add (i * 4)).block, o, none⟩ := fun o => by
      simp only [World.cell?, block_add]
      rw [hg.block ad.block h1 (by simpa using hne)]
    refine ⟨?_, (hB _).trans q.c1, (hB _).trans q.c2, (hB _).trans q.c3⟩
    rw [← q.c0]
    simp only [World.cell?, block_add]
    rw [hg.block ad.block h1 (by simpa using hne)]
theorem row_blk {w : World} {gy : Nat} {f : Nat → Bool} (h : w.ownsRow gy 4 1 (.slice (some ⟨gy, 0, none⟩) 16 16) 16 (bv f 16)) : ∃ cur, Bk w gy 4 cur ∧ cur.size = 16 ∧ ∀ (o : Nat) (v : Value), cur[o]? = some v → ∃ b : Bool, v = .bool b := by
  rcases h.2 with ⟨h0, _⟩ | ⟨g, cap, cur, e, _, hg, _, _, hcs, htake⟩
  · cases h0
  · cases e
    refine ⟨cur, hg, by omega, fun o v hv => ?_⟩
    have ho := (Array.getElem?_eq_some_iff.1 hv).1
    have h2 : (bv f 16)[o]? = some v := by
      rw [← htake, List.getElem?_take, if_pos (by omega), ← hv]
      simp
    rw [bv_at (by omega)] at h2
    exact ⟨_, (Option.some.inj h2).symm⟩
/-- A tally, while a row of bools has turned. -/
theorem TalAt.put {w : World} {p b0 b1 k gy j : Nat} {T : Tv} {f : Nat → Bool} {u : Value} (h : TalAt w p b0 b1 k T) (hr : w.ownsRow gy 4 1 (.slice (some ⟨gy, 0, none⟩) 16 16) 16 (bv f 16)) : TalAt (w.setCell ⟨gy, j, none⟩ u) p b0 b1 k T := by
  obtain ⟨cur, hc, hsz, hbl⟩ := row_blk hr
  have hg := (hr.stored j u).2
  obtain ⟨A, n, c, V, C, h⟩ := h
  have hp : p ≠ gy := by
    rintro rfl
    have h1 := h.blk
    unfold Bk at h1 hc
    rw [hc] at h1
    injection h1 with h1
    injection h1 with _ h1
    cases h1
  have e4 : ∀ x ∈ V, x.b ≠ gy := by
    rintro x hx rfl
    have h1 := h.mv.cells x hx
    unfold Bk at h1 hc
    rw [hc] at h1
    injection h1 with h1
    injection h1 with h1 _
    subst h1
    simp at hsz
  have e3 : ∀ x ∈ C, x.b ≠ gy := by
    rintro x hx rfl
    have h1 := h.mc.cells x hx
    unfold Bk at h1 hc
    rw [hc] at h1
    injection h1 with h1
    injection h1 with _ h1
    cases h1
  refine ⟨A, n, c, V, C, h.blk.grown hg hp, ⟨?_, h.ints.len, h.ints.most⟩, h.mv.kept hg (by simpa using h.mv.ne hc) (fun x hx => by simpa using (e4 x hx).symm), h.mc.kept hg (by simpa using h.mc.ne hc) (fun x hx => by simpa using (e3 x hx).symm), h.av, h.ac, h.ok, h.ne⟩
  rcases h.ints.ints with e | ⟨ad, e, h1, h2⟩
  · exact .inl e
  · rcases Nat.eq_zero_or_pos T.ns.length with e0 | e0
    · exact .inl (List.length_eq_zero_iff.1 e0)
    · have hne : ad.block ≠ gy := by
        rintro rfl
        have hc0 := h2 0 e0
        have hb0 : ad.add 0 = ad := by unfold Addr.add; simp
        rw [hb0] at hc0
        unfold World.cell? at hc0
        unfold Bk at hc
        rw [hc] at hc0
        simp only at hc0
        split at hc0
        · cases hc0
        · obtain ⟨b, hb⟩ := hbl _ _ hc0
          cases hb
      refine .inr ⟨ad, e, Nat.lt_of_lt_of_le h1 hg.size, fun q hq => ?_⟩
      rw [← h2 q hq]
      simp only [World.cell?, block_add]
      rw [hg.block ad.block h1 (by simpa using hne)]
theorem vote_tal {w : World} {p bv bc k : Nat} {T : Tv} (h : TalAt w p bv bc k T) (hk : k ≤ 900) (n : Int) (y : Bool) :
    Calls Try.prog 41 #[.pointer (some ⟨p, 0, none⟩), .int .i64 n, .bool y] w fun e w' => e = .returned (.int .i64 (voteE T n y)) ∧ TalAt w' p bv bc (k + 1) (voteT T n y) ∧ Mv w w' ∧ w.grownBy w' (some bv) := by
  refine (vote_any h hk n y).mono ?_
  rintro e w' ⟨rfl, h1, hg⟩
  obtain ⟨⟨_, _, _, hm⟩, _⟩ := h.maps
  exact ⟨rfl, h1, ⟨_, _, _, _, hm, hg⟩, hg⟩
theorem exit_tal {w : World} {p bv bc k : Nat} {T : Tv} (h : TalAt w p bv bc k T) (hk : k ≤ 900) (n c : Int) :
    Calls Try.prog 42 #[.pointer (some ⟨p, 0, none⟩), .int .i64 n, .int .i64 c] w fun e w' => e = .returned (.int .i64 (exitE T n c)) ∧ TalAt w' p bv bc (k + 1) (exitT T n c) ∧ Mv w w' ∧ w.grownBy w' (some bc) := by
  refine (exit_any h hk n c).mono ?_
  rintro e w' ⟨rfl, h1, hg⟩
  obtain ⟨_, ⟨_, _, _, hm⟩⟩ := h.maps
  exact ⟨rfl, h1, ⟨_, _, _, _, hm, hg⟩, hg⟩
theorem voteT_ns (T : Tv) (n : Int) (y : Bool) : (voteT T n y).ns = T.ns := by
  rcases voteT_cases T n y with e | ⟨i, _, _, _, _, e⟩ <;> rw [e]
theorem exitT_ns (T : Tv) (n c : Int) : (exitT T n c).ns = T.ns := by
  rcases exitT_cases T n c with e | ⟨i, _, _, _, _, _, _, e⟩ <;> rw [e]
theorem exitT_vs (T : Tv) (n c : Int) : (exitT T n c).vs = T.vs := by
  rcases exitT_cases T n c with e | ⟨i, _, _, _, _, _, _, e⟩ <;> rw [e]
/-- Who votes yes is a node. -/
theorem vote_node {T : Tv} (h : TOk T) {n : Int} {y : Bool} (e : voteE T n y = 0) : ∃ j : Nat, n = j ∧ j < 16 := by
  unfold voteE at e
  cases hx : ixN T.ns n with
  | none => rw [hx] at e; cases e
  | some i =>
    obtain ⟨hi, hn⟩ := ixN_some hx
    have := (okN_iff.1 h.ns).1.2 _ (mem_getD hi)
    rw [hn] at this
    exact ⟨n.toNat, by omega, by omega⟩
theorem YesOK.yes {T : Tv} {f : Nat → Bool} (h : YesOK T f) (_ : TOk T) {n : Int} {j : Nat} (hj : n = j) : YesOK (voteT T n true) (fun q => f q || q == j) := by
  rcases voteT_cases T n true with e | ⟨i, hx, _, _, _, e⟩
  · rw [e]
    exact ⟨h.1, fun i hi h1 q hq => by show (f q || q == j) = true; rw [h.2 i hi h1 q hq]; rfl⟩
  · rw [e]
    obtain ⟨hi, hn⟩ := ixN_some hx
    refine ⟨by simpa using h.1, fun i' hi' h1 q hq => ?_⟩
    by_cases e2 : i' = i
    · subst e2
      have : q = j := by
        have hq' : T.ns.getD i' 0 = (q : Int) := hq
        omega
      subst this
      simp
    · have h1' : (T.vs.set i (vI true)).getD i' 0 = 1 := h1
      rw [set_other e2] at h1'
      have := h.2 i' hi' h1' q hq
      simp only [this]
      rfl
theorem YesOK.same {T : Tv} {f : Nat → Bool} (h : YesOK T f) {n : Int} {y : Bool} (hy : y = false ∨ voteE T n y ≠ 0) : YesOK (voteT T n y) f := by
  rcases voteT_cases T n y with e | ⟨i, hx, h0, _, _, e⟩
  · rw [e]; exact h
  · rcases hy with rfl | hy
    · rw [e]
      obtain ⟨hi, hn⟩ := ixN_some hx
      refine ⟨by simpa using h.1, fun i' hi' h1 q hq => ?_⟩
      by_cases e2 : i' = i
      · subst e2
        have h1' : (T.vs.set i' (vI false)).getD i' 0 = 1 := h1
        rw [set_same (by rw [h.1]; exact hi)] at h1'
        simp [vI] at h1'
      · have h1' : (T.vs.set i (vI false)).getD i' 0 = 1 := h1
        rw [set_other e2] at h1'
        exact h.2 i' hi' h1' q hq
    · exact absurd h0 hy
theorem YesOK.exit {T : Tv} {f : Nat → Bool} (h : YesOK T f) (n c : Int) : YesOK (exitT T n c) f := by
  unfold YesOK
  rw [exitT_vs, exitT_ns]
  exact h
set_option maxRecDepth 100000 in
set_option maxHeartbeats 8000000 in
theorem oneway_law (A S : Option Addr) (n cap m cs : Nat) (zs : List Int) (os : List Op4) (w : World) (h : Il w A n zs) (hS : Sc w S m os) :
    Calls Try.prog 10 #[.slice A n cap, .slice S m cs] w fun e w' => e = .returned (.bool true) ∧ Below w.heap.size w w' := by
  have KL := Lib.hid tlive_any
  have hm1 := hS.most
  have hn1 := h.most
  unfold maxLen at hm1 hn1
  have HI := Lib.hid h
  have HS := Lib.hid hS
  clear h hS
  by_cases gm : m > 100
  · have gm' : (m : Int) > 100 := by omega
    go_enter Try.func10, Try.ntmps10
    go_wp2_with (go_at_call 29; (with_reducible refine (KL.out _).mono ?_); rintro _ w9 ⟨rfl, hb9⟩)
    go_ret
    exact ⟨rfl, hb9⟩
  · have gm' : ¬ ((m : Int) > 100) := by omega
    by_cases gn : n > 16
    · have gn' : (n : Int) > 16 := by omega
      go_enter Try.func10, Try.ntmps10
      go_wp2_with (go_at_call 29; (with_reducible refine (KL.out _).mono ?_); rintro _ w9 ⟨rfl, hb9⟩)
      go_ret
      exact ⟨rfl, hb9⟩
    · have gn' : ¬ ((n : Int) > 16) := by omega
      go_enter Try.func10, Try.ntmps10
      go_wp2_with fail
      refine (rnew_any A n cap zs w HI.out).mono ?_
      rintro _ w1 ⟨(⟨hno, rfl⟩ | ⟨hok, q, va, vb, vc, rfl, _, _⟩), hb1⟩
      · go_wp2_with (go_at_call 29; (with_reducible refine (KL.out _).mono ?_); rintro _ w9 ⟨rfl, hb9⟩)
        go_ret
        exact ⟨rfl, bmore hb1 hb9⟩
      · have HOK := Lib.hid hok
        clear hok
        go_wp2_with fail
        refine (tnew_any A n cap zs w1 (HI.out.next hb1)).mono ?_
        rintro _ w2 ⟨(⟨hno, _⟩ | ⟨_, p, bv, bc, rfl, hT, hp, hv, hc⟩), hb2⟩
        · exact absurd hno (by rw [HOK.out]; simp)
        obtain ⟨tb, bi, bz0, bz1, bz2⟩ := info_parts info4
        obtain ⟨w3, hmk, hd0, hg0⟩ := run_make_full w2 w2.heap.size 56 4 tb (.bool false) 1 Try.underlying56 bi bz0 bz1 .i64 .i64 16 (by rw [bz2]; omega) (by unfold maxLen; omega) (Nat.le_refl _)
        have hmk2 : (Instr.makeSlice 56 (.int .i64 16) (.int .i64 16)).run Try.prog w2 = .ok (.slice (some ⟨w2.heap.size, 0, none⟩) 16 16) w3 := hmk
        rw [made_bv] at hd0
        have hb3 := only_grown0 hg0
        have hT3 := Lib.hid (hT.next hb3)
        have HB3 := Lib.hid (bmore (bmore hb1 hb2) hb3)
        have hs12 := (bmore hb1 hb2).size
        have hs1 := hb1.size
        have HBK := Lib.hid (show w.heap.size ≤ bv ∧ w.heap.size ≤ bc ∧ w.heap.size ≤ w2.heap.size from ⟨by omega, by omega, hs12⟩)
        have hst0 := Lib.hid (show Tv.st ⟨zs, List.replicate n 0, List.replicate n (-1)⟩ = 0 from by
          have hpos := (okN_iff.1 HOK.out).2
          rw [HI.out.len] at hpos
          unfold Tv.st
          have h2 : hasB (List.replicate n (0 : Int)) 2 = false := by rw [← Bool.not_eq_true, hasB_iff]; intro hm; have := List.eq_of_mem_replicate hm; omega
          have h0 : hasB (List.replicate n (0 : Int)) 0 = true := by rw [hasB_iff]; exact List.mem_replicate.2 ⟨by omega, rfl⟩
          simp only [h2, h0]
          rfl)
        have hTok := Lib.hid (TOk.new HOK.out HI.out.len)
        have hY0 := Lib.hid (show YesOK ⟨zs, List.replicate n 0, List.replicate n (-1)⟩ (fun j => hasB [] (j : Int)) from ⟨by simp [HI.out.len], fun i hi h1 => by
          exfalso
          have hi' : i < zs.length := hi
          rw [HI.out.len] at hi'
          have h1' : (List.replicate n (0 : Int)).getD i 0 = 1 := h1
          simp [List.getD, hi'] at h1'⟩)
        clear hT hp hv hc hb1 hb2 hb3 hg0 hs12 hs1 hmk
        go_wp2
        clear hmk2
        generalize w2.heap.size = gy at *
        go_loopg [7, 8] m (fun g s7 s8 wr => ∃ (i : Nat) (T : Tv) (f : Nat → Bool), i + g = m ∧ s8 = .int .i64 i ∧ s7 = .int .i64 T.st ∧ TalAt wr p bv bc i T ∧ wr.ownsRow gy 4 1 (.slice (some ⟨gy, 0, none⟩) 16 16) 16 (Ytodgkjmkjahkiaa.bv f 16) ∧ Hid (TOk T ∧ T.ns = zs ∧ YesOK T f) ∧ Below w.heap.size w wr)
        case atStart => exact ⟨0, _, _, by omega, rfl, by rw [hst0.out], hT3.out, hd0, Lib.hid ⟨hTok.out, rfl, hY0.out⟩, HB3.out⟩
        case round =>
          clear hd0 hT3 HB3 hst0 hTok hY0
          obtain ⟨i, T, f, hig, rfl, rfl, hT, hY, HK, hb⟩ := hrel
          obtain ⟨wo, hwo⟩ : ∃ x, x = wr := ⟨_, rfl⟩
          subst hwo
          cases gk with
          | zero =>
            have hlt : ¬ ((i : Int) < (m : Int)) := by omega
            go_wp2_with (go_at_call 29; (with_reducible refine (KL.out _).mono ?_); rintro _ w9 ⟨rfl, hb9⟩)
            go_ret
            exact ⟨rfl, bmore hb hb9⟩
          | succ g =>
            have i0 : (0 : Int) ≤ (i : Int) := by omega
            have i1 : (i : Int) < (m : Int) := by omega
            obtain ⟨ad, rfl, h1, ⟨c0, c1, c2, c3⟩⟩ := (HS.out.next hb).at' (i := i) (by omega)
            generalize opA os i = o at *
            obtain ⟨ov, on, oy, oc⟩ := o
            dsimp only at c0 c1 c2 c3
            have hbx := below_alloc wo (.cells #[.bool ov, .int .i64 on, .bool oy, .int .i64 oc] 51)
            have kb := Lib.hid (Bk.new wo 51 #[.bool ov, .int .i64 on, .bool oy, .int .i64 oc])
            have hT1 := Lib.hid (hT.next hbx)
            have hY1 := Lib.hid (own_next hY hbx)
            have hb1 := Lib.hid (bmore hb hbx)
            clear hT hY hb hbx
            have d0 := kb.out.cell 0 _ rfl
            go_upto_if 43 with fail
            clear c0 c1 c2 c3 d0
            generalize wo.heap.size = gb at *
            generalize wo.alloc (.cells #[.bool ov, .int .i64 on, .bool oy, .int .i64 oc] 51) = W at *
            have d1 := kb.out.cell 1 _ rfl
            have d2 := kb.out.cell 2 _ rfl
            have d3 := kb.out.cell 3 _ rfl
            go_cut [] (fun wx => ∃ (T1 : Tv) (f1 : Nat → Bool), TalAt wx p bv bc (i + 1) T1 ∧ wx.ownsRow gy 4 1 (.slice (some ⟨gy, 0, none⟩) 16 16) 16 (Ytodgkjmkjahkiaa.bv f1 16) ∧ Hid (TOk T1 ∧ T1.ns = zs ∧ YesOK T1 f1 ∧ wayB T.st T1.st = true) ∧ Below w.heap.size w wx)
            case first =>
              have KV := Lib.hid (vote_tal hT1.out (by omega) on oy)
              have KE := Lib.hid (exit_tal hT1.out (by omega) on oc)
              cases ov
              · go_wp2_with (go_at_call 42; (with_reducible refine KE.out.mono ?_); rintro _ w4 ⟨rfl, hT2, hmv, hg⟩)
                go_meet
                exact ⟨exitT T on oc, f, hT2, own_mv hY1.out hmv, Lib.hid ⟨HK.out.1.exit on oc, (exitT_ns T on oc).trans HK.out.2.1, HK.out.2.2.exit on oc, way_exit HK.out.1 on oc⟩, hb1.out.grown hg hb1.out.size (fun j ej => by cases ej; exact HBK.out.2.1)⟩
              · cases hy : oy
                · have HY := Lib.hid (HK.out.2.2.same (n := on) (y := oy) (.inl hy))
                  have HW := Lib.hid (way_vote HK.out.1 on oy)
                  have HO := Lib.hid (HK.out.1.vote on oy)
                  have HN := Lib.hid ((voteT_ns T on oy).trans HK.out.2.1)
                  subst hy
                  generalize voteE T on false = e at *
                  go_wp2_with (go_at_call 41; (with_reducible refine KV.out.mono ?_); rintro _ w4 ⟨rfl, hT2, hmv, hg⟩; have d5 := (kb.out.mv hmv).cell 2 _ rfl)
                  all_goals
                    go_meet
                    exact ⟨_, f, hT2, own_mv hY1.out hmv, Lib.hid ⟨HO.out, HN.out, HY.out, HW.out⟩, hb1.out.grown hg hb1.out.size (fun j ej => by cases ej; exact HBK.out.1)⟩
                · subst hy
                  by_cases he : voteE T on true = 0
                  · obtain ⟨j, hj, hj16⟩ := vote_node HK.out.1 he
                    subst hj
                    have HY := Lib.hid (HK.out.2.2.yes HK.out.1 (n := (j : Int)) (j := j) rfl)
                    have HW := Lib.hid (way_vote HK.out.1 (j : Int) true)
                    have HO := Lib.hid (HK.out.1.vote (j : Int) true)
                    have HN := Lib.hid ((voteT_ns T (j : Int) true).trans HK.out.2.1)
                    rw [he] at KV
                    clear he
                    have j0 : (0 : Int) ≤ (j : Int) := by omega
                    have j1 : (j : Int) < 16 := by omega
                    go_wp2_with (go_at_call 41; (with_reducible refine KV.out.mono ?_); rintro _ w4 ⟨rfl, hT2, hmv, hg⟩; have d5 := (kb.out.mv hmv).cell 2 _ rfl; have d6 := (kb.out.mv hmv).cell 1 _ rfl; have hY2 := own_mv hY1.out hmv; have d7 := (hY2.cellAt j (by omega)).trans (bv_at hj16); have d8 := hY2.frozenAt j)
                    go_meet
                    refine ⟨_, (fun q => f q || q == j), hT2.put hY2, ?_, Lib.hid ⟨HO.out, HN.out, HY.out, HW.out⟩, (hb1.out.grown hg hb1.out.size (fun j ej => by cases ej; exact HBK.out.1)).setCell HBK.out.2.2 _⟩
                    rw [← bv_set]
                    exact (hY2.stored j _).1
                  · have HY := Lib.hid (HK.out.2.2.same (n := on) (y := true) (.inr he))
                    have HW := Lib.hid (way_vote HK.out.1 on true)
                    have HO := Lib.hid (HK.out.1.vote on true)
                    have HN := Lib.hid ((voteT_ns T on true).trans HK.out.2.1)
                    have he2 : (voteE T on true == 0) = false := by simpa using he
                    generalize voteE T on true = e at *
                    clear he
                    go_wp2_with (go_at_call 41; (with_reducible refine KV.out.mono ?_); rintro _ w4 ⟨rfl, hT2, hmv, hg⟩; have d5 := (kb.out.mv hmv).cell 2 _ rfl)
                    go_meet
                    exact ⟨_, f, hT2, own_mv hY1.out hmv, Lib.hid ⟨HO.out, HN.out, HY.out, HW.out⟩, hb1.out.grown hg hb1.out.size (fun j ej => by cases ej; exact HBK.out.1)⟩
            case rest =>
              obtain ⟨T1, f1, hT2, hY2, HK2, hb2⟩ := hcut
              clear d1 d2 d3 kb hT1 hY1 hb1
              have KS := Lib.hid (state_any hT2)
              go_upto_region 18 with (go_at_call 33; (with_reducible refine KS.out.mono ?_); rintro _ w5 ⟨rfl, hb5⟩)
              have hT3 := Lib.hid (hT2.next hb5)
              have hY3 := Lib.hid (own_next hY2 hb5)
              have hb3 := Lib.hid (bmore hb2 hb5)
              have HR := Lib.hid (st_range T)
              have HR1 := Lib.hid (st_range T1)
              have HG := Lib.hid (fun hh => go_yes HK2.out.1.lv HK2.out.1.vv (T := T1) hh)
              clear hT2 hY2 hb2 hb5 KS
              have HWay := Lib.hid HK2.out.2.2.2
              generalize hs1 : T1.st = s1 at *
              generalize hs0 : T.st = s0 at *
              have HS1 := Lib.hid hs1
              clear hs1 hs0
              go_cut [82] (fun s82 wx => s82 = .bool false ∧ wx = w5)
              case first =>
                rcases HR.out with rfl | rfl | rfl | rfl
                · rcases HR1.out with rfl | rfl | rfl | rfl
                  all_goals
                    go_wp2
                    go_meet
                    exact ⟨rfl, rfl⟩
                · rcases HR1.out with rfl | rfl | rfl | rfl
                  · exact absurd HWay.out (by decide)
                  · go_wp2
                    go_meet
                    exact ⟨rfl, rfl⟩
                  · exact absurd HWay.out (by decide)
                  · go_wp2
                    go_meet
                    exact ⟨rfl, rfl⟩
                · rcases HR1.out with rfl | rfl | rfl | rfl
                  · exact absurd HWay.out (by decide)
                  · exact absurd HWay.out (by decide)
                  · go_wp2
                    go_meet
                    exact ⟨rfl, rfl⟩
                  · exact absurd HWay.out (by decide)
                · rcases HR1.out with rfl | rfl | rfl | rfl
                  · exact absurd HWay.out (by decide)
                  · exact absurd HWay.out (by decide)
                  · exact absurd HWay.out (by decide)
                  · go_wp2
                    go_meet
                    exact ⟨rfl, rfl⟩
              case rest =>
                obtain ⟨rfl, rfl⟩ := hcut
                go_wp2
                go_loopg [12] n (fun g2 s12 wz => ∃ k : Nat, k + g2 = n ∧ s12 = .int .i64 k ∧ wz = wc)
                case atStart => exact ⟨0, by omega, rfl, rfl⟩
                case round =>
                  obtain ⟨k, hkg, rfl, rfl⟩ := hrel
                  have HN := Lib.hid (show Hid (TOk T1 ∧ T1.ns = zs ∧ YesOK T1 f1) from Lib.hid ⟨HK2.out.1, HK2.out.2.1, HK2.out.2.2.1⟩)
                  cases gk with
                  | zero =>
                    have hkm : ¬ ((k : Int) < (n : Int)) := by omega
                    go_wp2
                    go_roundg g
                    case measure => omega
                    case rel => exact ⟨i + 1, T1, f1, by omega, by go_num, by rw [HS1.out], hT3.out, hY3.out, HN.out, hb3.out⟩
                  | succ g2 =>
                    have k0 : (0 : Int) ≤ (k : Int) := by omega
                    have k1 : (k : Int) < (n : Int) := by omega
                    by_cases hgo : s1 = 1 ∨ s1 = 3
                    · have hlen : T1.ns.length = n := by rw [HK2.out.2.1, HI.out.len]
                      have h11 := HG.out hgo k (by omega)
                      obtain ⟨adn, rfl, _, hzc⟩ := (HI.out.ints.next hb3.out).at_ (k := k) (by rw [HI.out.len]; omega)
                      have hrange := (okN_iff.1 HK2.out.1.ns).1.2 _ (mem_getD (i := k) (by omega))
                      rw [HK2.out.2.1] at hrange
                      obtain ⟨j, hj⟩ : ∃ j : Nat, zs.getD k 0 = j := ⟨(zs.getD k 0).toNat, by omega⟩
                      have hfj := HK2.out.2.2.1.2 k (by omega) h11 j (by rw [HK2.out.2.1]; exact hj)
                      rw [hj] at hzc hrange
                      have hc := (hY3.out.cellAt j (by omega)).trans (bv_at (by omega))
                      rw [hfj] at hc
                      have j0 : (0 : Int) ≤ (j : Int) := by omega
                      have j1 : (j : Int) < 16 := by omega
                      clear hj hfj h11 hlen hrange
                      rcases hgo with rfl | rfl
                      all_goals
                        go_wp2
                        go_roundg g2
                        case measure => omega
                        case rel => exact ⟨k + 1, by omega, by go_num, rfl⟩
                    · have s1a : (s1 == 1) = false := by rw [beq_eq_false_iff_ne]; exact fun e => hgo (.inl e)
                      have s1b : (s1 == 3) = false := by rw [beq_eq_false_iff_ne]; exact fun e => hgo (.inr e)
                      clear hgo
                      go_wp2
                      go_roundg g
                      case measure => omega
                      case rel => exact ⟨i + 1, T1, f1, by omega, by go_num, by rw [HS1.out], hT3.out, hY3.out, HN.out, hb3.out⟩
end Go.Proofs.Ytodgkjmkjahkiaa
