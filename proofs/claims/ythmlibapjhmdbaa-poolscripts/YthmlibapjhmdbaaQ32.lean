/- The document's pool: Take. -/
import Derived.Test.YthmlibapjhmdbaaQ31
namespace Go.Proofs.Ythmlibapjhmdbaa
open Go.RowKit Go.Shelf Go.Maps

attribute [local go_sem] eq33 eq40

theorem zero_no {a b c d : Nat} (h : [a, b, c, d] ≠ Mk.zero) : ((a : Int) == 0 && (b : Int) == 0 && (c : Int) == 0 && (d : Int) == 0) = false := by rw [zero_iff, decide_eq_false h]
theorem zero_yes {a b c d : Nat} (h : [a, b, c, d] = Mk.zero) : ((a : Int) == 0 && (b : Int) == 0 && (c : Int) == 0 && (d : Int) == 0) = true := by rw [zero_iff, decide_eq_true h]
/-- What Take tells. -/
noncomputable def rtE (Ow : List Int) (n : Int) (m : List Nat) : Int := if isOwn n = false ∨ m = Mk.zero then 1 else if rh Ow n = true then 14 else if zw andN m (Mk.ofL (hv Ow (-1) Ow.length)) ≠ Mk.zero then 12 else 0
set_option maxRecDepth 100000 in
set_option maxHeartbeats 4000000 in
theorem rtake_any {w : World} {r s q na nb : Nat} {va vb : Value} {Ow Dn : List Int} (h : RPool w r s q va vb na nb Ow Dn) (hm : na ≤ 256) (h1 : 1 ≤ na) (hd : nb ≤ 1000) (n : Int) (m0 m1 m2 m3 : Nat) (hw : Mk.W4 [m0, m1, m2, m3]) :
    Calls Try.prog 34 #[.pointer (some ⟨r, 0, none⟩), .int .i64 n, .agg #[.int .u64 m0, .int .u64 m1, .int .u64 m2, .int .u64 m3]] w fun e w' => (rtE Ow n [m0, m1, m2, m3] ≠ 0 ∧ e = .returned (.int .i64 (rtE Ow n [m0, m1, m2, m3])) ∧ Below w.heap.size w w') ∨ (rtE Ow n [m0, m1, m2, m3] = 0 ∧ e = .returned (.int .i64 0) ∧ (∃ vb', RPool w' r s q va vb' na (nb + 1) (gv [m0, m1, m2, m3] n Ow na) (Dn ++ [n])) ∧ Td (RX r va vb) w w') := by
  have hba := (Below.refl _ w).alloc (Nat.le_refl _) (.cells #[.int .u64 m0, .int .u64 m1, .int .u64 m2, .int .u64 m3] 35)
  have k0 := Bk.new w 35 #[.int .u64 m0, .int .u64 m1, .int .u64 m2, .int .u64 m3]
  have KO := Lib.hid (rowner_any n)
  have HH := Lib.hid (h.next hba)
  have hr := h.blk.lt
  have hla := h.la
  obtain ⟨er, her⟩ : ∃ er, er = rtE Ow n [m0, m1, m2, m3] := ⟨_, rfl⟩
  rw [← her]
  unfold rtE at her
  clear h
  cases ho : isOwn n with
  | false =>
    rw [if_pos (.inl ho)] at her
    rw [ho] at KO
    subst her
    clear ho
    go_enter Try.func34, Try.ntmps34
    go_wp2_with fail
    refine (KO.out _).mono ?_
    rintro _ w1 ⟨rfl, rfl⟩
    go_wp2_with fail
    go_ret
    exact .inl ⟨by decide, rfl, hba⟩
  | true =>
    rw [ho] at KO
    have c0 := k0.cell 0 _ rfl
    have c1 := k0.cell 1 _ rfl
    have c2 := k0.cell 2 _ rfl
    have c3 := k0.cell 3 _ rfl
    by_cases hz : [m0, m1, m2, m3] = Mk.zero
    · have t0 := zero_yes hz
      rw [if_pos (.inr hz)] at her
      subst her
      clear ho hz
      go_enter Try.func34, Try.ntmps34
      go_wp2_with fail
      refine (KO.out _).mono ?_
      rintro _ w1 ⟨rfl, rfl⟩
      go_wp2_with fail
      go_ret
      exact .inl ⟨by decide, rfl, hba⟩
    · have t0 := zero_no hz
      rw [if_neg (by rintro (e | e); · rw [ho] at e; cases e
                     · exact hz e)] at her
      clear ho hz
      have KH := Lib.hid (rhas_any HH.out hm n)
      cases hh : rh Ow n with
      | true =>
        rw [if_pos hh] at her
        rw [hh] at KH
        subst her
        clear hh
        go_enter Try.func34, Try.ntmps34
        go_wp2_with fail
        refine (KO.out _).mono ?_
        rintro _ w1 ⟨rfl, rfl⟩
        go_wp2_with fail
        refine KH.out.mono ?_
        rintro _ w2 ⟨rfl, hb⟩
        go_wp2_with fail
        go_ret
        exact .inl ⟨by decide, rfl, bmore hba hb⟩
      | false =>
        rw [if_neg (by rw [hh]; decide)] at her
        rw [hh] at KH
        clear hh
        obtain ⟨F, hFe⟩ : ∃ F, Mk.ofL (hv Ow (-1) na) = F := ⟨_, rfl⟩
        have hF : Mk.W4 F := by rw [← hFe]; exact Mk.ofL_W4 (hv_lt hm)
        rw [hla, hFe] at her
        obtain ⟨f0, f1, f2, f3, rfl⟩ : ∃ f0 f1 f2 f3, F = [f0, f1, f2, f3] := ⟨_, _, _, _, Mk.len4 hF.1⟩
        obtain ⟨d0, d1, d2, d3, hde⟩ : ∃ d0 d1 d2 d3, zw andN [m0, m1, m2, m3] [f0, f1, f2, f3] = [d0, d1, d2, d3] := ⟨_, _, _, _, Mk.len4 (zw_len hw.1 hF.1)⟩
        rw [hde] at her
        have KM := Lib.hid (show ∀ V : World, Calls Try.prog 53 #[.agg #[.int .u64 m0, .int .u64 m1, .int .u64 m2, .int .u64 m3], .agg #[.int .u64 f0, .int .u64 f1, .int .u64 f2, .int .u64 f3]] V fun e w' => e = .returned (.agg #[.int .u64 d0, .int .u64 d1, .int .u64 d2, .int .u64 d3]) ∧ Below V.heap.size V w' from fun V => by
          have := rMinus_any m0 m1 m2 m3 f0 f1 f2 f3 V hw hF
          rw [hde] at this
          exact this)
        have KF := Lib.hid (show ∀ V va vb nb Dn, RPool V r s q va vb na nb Ow Dn → Calls Try.prog 14 #[.pointer (some ⟨r, 0, none⟩)] V fun e w' => e = .returned (.agg #[.int .u64 f0, .int .u64 f1, .int .u64 f2, .int .u64 f3]) ∧ Below V.heap.size V w' from fun V va vb nb Dn hV => by
          have := rfree_any hV hm
          rw [hFe] at this
          exact this)
        have HW := Lib.hid hw
        obtain ⟨g, cap, rfl⟩ := own_some HH.out.ra h1
        obtain ⟨i0, hi, hz0, hz1, hz2⟩ := info_parts info3
        clear hFe hde hF hw hla
        by_cases hzd : [d0, d1, d2, d3] = Mk.zero
        · rw [if_neg (by rintro e; exact e hzd)] at her
          have td := zero_yes hzd
          subst her
          clear hzd
          go_enter Try.func34, Try.ntmps34
          go_wp2_with fail
          refine (KO.out _).mono ?_
          rintro _ w1 ⟨rfl, rfl⟩
          go_wp2_with fail
          refine KH.out.mono ?_
          rintro _ w2 ⟨rfl, hb⟩
          have H2 := Lib.hid (HH.out.next hb)
          replace k0 := k0.next hb
          replace hba := bmore hba hb
          clear hb c0 c1 c2 c3 t0 KH KO HH
          go_wp2_with fail
          have A0 := In.cell (B := w2.heap.size) k0.lt (k0.cell 0 _ rfl)
          have A1 := In.cell (B := w2.heap.size) k0.lt (k0.cell 1 _ rfl)
          have A2 := In.cell (B := w2.heap.size) k0.lt (k0.cell 2 _ rfl)
          have A3 := In.cell (B := w2.heap.size) k0.lt (k0.cell 3 _ rfl)
          have hIn := inNonempty w2.heap.size w2
          have KFW := Lib.hid (fun i : In w2.heap.size w2 => KF.out i.val _ _ _ _ (H2.out.next i.ok))
          refine region_in w2.heap.size (by kernel_rfl) (by kernel_rfl) ?_
          repeat (go_big_quiet_step (first | (go_at_call 14; with_reducible exact Calls.in_of (Nat.le_refl _) (KFW.out _)) | (go_at_call 53; with_reducible exact Calls.in_of (Nat.le_refl _) (KM.out _))))
          refine wpQuiet_nil ?_
          intro w4 hb4
          have H4 := Lib.hid (H2.out.next hb4)
          replace k0 := k0.next hb4
          replace hba := bmore hba hb4
          clear hb4 A0 A1 A2 A3 hIn KFW KF KM H2
          have c0 := k0.cell 0 _ rfl
          have c1 := k0.cell 1 _ rfl
          have c2 := k0.cell 2 _ rfl
          have c3 := k0.cell 3 _ rfl
          have KG := Lib.hid (give_any H4.out hm n m0 m1 m2 m3 HW.out)
          go_wp2_with fail
          refine KG.out.mono ?_
          rintro _ w5 ⟨⟨u, rfl⟩, hR5, hG5⟩
          have hgb : r + 1 ≤ g ∧ g < w5.heap.size := own_blk hR5.ra rfl
          have hr4 := H4.out.blk.lt
          have hbr : Td (RX r (.slice (some ⟨g, 0, none⟩) na cap) vb) w w5 := (Td.of_below hba).trans (Td.grown hG5 (fun k e => .inr (.inl e)))
          have H5 := Lib.hid hR5
          clear hR5 hG5 KG H4 c0 c1 c2 c3 k0 hba
          have c3 := H5.out.blk.cell 3 _ rfl
          obtain ⟨A, capB, rfl⟩ := own_form H5.out.rb
          have HPB := Lib.hid (fun v' w6 q1 q2 q3 => RPool.pushB (x := n) (vb' := v') (w6 := w6) H5.out q1 q2 q3)
          go_wp2_with (at_builtin; refine wpList_append_own_at _ rfl _ _ 44 rfl (r + 1) 3 i0 (.int .i64 0) 1 8 Try.underlying44 hi hz0 hz1 hz2 rfl (by decide) _ _ _ rfl (H5.out.rb.alloc _) ⟨w5.heap.size, 0, none⟩ 1 1 [.int .i64 n] rfl rfl (cell_one_new _ _ _) (by simp [Value.oneCell']) (by unfold maxLen; omega) (by omega) (by have := H5.out.blk.lt; simp; omega) ?_; intro v8 w8 hown8 hg8 _ hat8; obtain ⟨y1, y2, y3, y4⟩ := HPB.out v8 w8 hown8 hg8 hat8; obtain ⟨A8, cap8, rfl⟩ := own_form hown8)
          go_ret
          exact .inr ⟨trivial, rfl, ⟨_, y3⟩, hbr.trans y4⟩
        · rw [if_pos hzd] at her
          have td := zero_no hzd
          subst her
          clear hzd
          go_enter Try.func34, Try.ntmps34
          go_wp2_with fail
          refine (KO.out _).mono ?_
          rintro _ w1 ⟨rfl, rfl⟩
          go_wp2_with fail
          refine KH.out.mono ?_
          rintro _ w2 ⟨rfl, hb⟩
          have H2 := Lib.hid (HH.out.next hb)
          replace k0 := k0.next hb
          replace hba := bmore hba hb
          clear hb c0 c1 c2 c3 t0 KH KO HH
          go_wp2_with fail
          have A0 := In.cell (B := w2.heap.size) k0.lt (k0.cell 0 _ rfl)
          have A1 := In.cell (B := w2.heap.size) k0.lt (k0.cell 1 _ rfl)
          have A2 := In.cell (B := w2.heap.size) k0.lt (k0.cell 2 _ rfl)
          have A3 := In.cell (B := w2.heap.size) k0.lt (k0.cell 3 _ rfl)
          have hIn := inNonempty w2.heap.size w2
          have KFW := Lib.hid (fun i : In w2.heap.size w2 => KF.out i.val _ _ _ _ (H2.out.next i.ok))
          refine region_in w2.heap.size (by kernel_rfl) (by kernel_rfl) ?_
          repeat (go_big_quiet_step (first | (go_at_call 14; with_reducible exact Calls.in_of (Nat.le_refl _) (KFW.out _)) | (go_at_call 53; with_reducible exact Calls.in_of (Nat.le_refl _) (KM.out _))))
          refine wpQuiet_nil ?_
          intro w4 hb4
          replace hba := bmore hba hb4
          clear hb4 A0 A1 A2 A3 hIn KFW KF KM H2 k0
          go_wp2_with fail
          go_ret
          exact .inl ⟨by decide, rfl, hba⟩
end Go.Proofs.Ythmlibapjhmdbaa
