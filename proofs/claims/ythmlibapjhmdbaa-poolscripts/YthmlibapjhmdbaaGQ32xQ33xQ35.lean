/- The document's pool: Take. -/
import Derived.Test.YthmlibapjhmdbaaGQ29xQ30xQ31
import Derived.Test.YthmlibapjhmdbaaGW23xQ19xQ24
import Derived.Test.YthmlibapjhmdbaaGQ20xQ34xQ25
namespace Go.Proofs.Ythmlibapjhmdbaa
open Go.RowKit Go.Shelf Go.Maps

attribute [local go_sem] eq33 eq40

theorem zero_no {a b c d : Nat} (h : [a, b, c, d] ≠ Mk.zero) : ((a : Int) == 0 && (b : Int) == 0 && (c : Int) == 0 && (d : Int) == 0) = false := by rw [zero_iff, decide_eq_false h]
theorem zero_yes {a b c d : Nat} (h : [a, b, c, d] = Mk.zero) : ((a : Int) == 0 && (b : Int) == 0 && (c : Int) == 0 && (d : Int) == 0) = true := by rw [zero_iff, decide_eq_true h]
/-- What Take tells. -/
noncomputable def rtE (Ow : List Int) (n : Int) (m : List Nat) : Int := if isOwn n = false ∨ m = Mk.zero then 1 else if rh Ow n = true then 14 else if zw andN m (Mk.ofL (hv Ow (-1) Ow.length)) ≠ Mk.zero then 12 else 0
set_option maxRecDepth 100000 in
set_option maxHeartbeats 4000000 in
theorem rtake_any {w : World} {r s q na nb : Nat} {va vb : Value} {Ow Dn : List Int} (h : RPool w r s q va vb na nb Ow Dn) (hm : na ≤ 256) (h1 : 1 ≤ na) (hd : nb ≤ 1000) (n : Int) (m0 m1 m2 m3 : Nat) (hw : Mk.W4 [m0, m1, m2, m3]) :
    Calls Try.prog 34 #[.pointer (some ⟨r, 0, none⟩), .int .i64 n, .agg #[.int .u64 m0, .int .u64 m1, .int .u64 m2, .int .u64 m3]] w fun e w' => (rtE Ow n [m0, m1, m2, m3] ≠ 0 ∧ e = .returned (.int .i64 (rtE Ow n [m0, m1, m2, m3])) ∧ Below w.heap.size w w') ∨ (rtE Ow n [m0, m1, m2, m3] = 0 ∧ e = .returned (.int .i64 0) ∧ (∃ vb', RPool w' r s q va vb' na (nb + 1) (gv [m0, m1, m2, m3] n Ow na) (Dn ++ [n])) ∧ Td (RX r va vb) w w') := by
  have hba := (Below.refl _ w).alloc (Nat.le_refl _) (.cells #[.int .u64 m0, .int .u64 m1, .int .u64 m2, .int .u64 m3] 35)
  have k0 := Bk.new w 35 #[.int .u64 m0, .int .u64 m1, .int .u64 m2, .int .u64 m3]
  have KO := Lib.hid (rowner_any n)
  have HH := Lib.hid (h.next hba)
  have hr := h.blk.lt
  have hla := h.la
  obtain ⟨er, her⟩ : ∃ er, er = rtE Ow n [m0, m1, m2, m3] := ⟨_, rfl⟩
  rw [← her]
  unfold rtE at her
  clear h
  cases ho : isOwn n with
  | false =>
    rw [if_pos (.inl ho)] at her
    rw [ho] at KO
    subst her
    clear ho
    go_enter Try.func34, Try.ntmps34
    go_wp2_with fail
    refine (KO.out _).mono ?_
    rintro _ w1 ⟨rfl, rfl⟩
    go_wp2_with fail
    go_ret
    exact .inl ⟨by decide, rfl, hba⟩
  | true =>
    rw [ho] at KO
    have c0 := k0.cell 0 _ rfl
    have c1 := k0.cell 1 _ rfl
    have c2 := k0.cell 2 _ rfl
    have c3 := k0.cell 3 _ rfl
    by_cases hz : [m0, m1, m2, m3] = Mk.zero
    · have t0 := zero_yes hz
      rw [if_pos (.inr hz)] at her
      subst her
      clear ho hz
      go_enter Try.func34, Try.ntmps34
      go_wp2_with fail
      refine (KO.out _).mono ?_
      rintro _ w1 ⟨rfl, rfl⟩
      go_wp2_with fail
      go_ret
      exact .inl ⟨by decide, rfl, hba⟩
    · have t0 := zero_no hz
      rw [if_neg (by rintro (e | e); · rw [ho] at e; cases e
                     · exact hz e)] at her
      clear ho hz
      have KH := Lib.hid (rhas_any HH.out hm n)
      cases hh : rh Ow n with
      | true =>
        rw [if_pos hh] at her
        rw [hh] at KH
        subst her
        clear hh
        go_enter Try.func34, Try.ntmps34
        go_wp2_with fail
        refine (KO.out _).mono ?_
        rintro _ w1 ⟨rfl, rfl⟩
        go_wp2_with fail
        refine KH.out.mono ?_
        rintro _ w2 ⟨rfl, hb⟩
        go_wp2_with fail
        go_ret
        exact .inl ⟨by decide, rfl, bmore hba hb⟩
      | false =>
        rw [if_neg (by rw [hh]; decide)] at her
        rw [hh] at KH
        clear hh
        obtain ⟨F, hFe⟩ : ∃ F, Mk.ofL (hv Ow (-1) na) = F := ⟨_, rfl⟩
        have hF : Mk.W4 F := by rw [← hFe]; exact Mk.ofL_W4 (hv_lt hm)
        rw [hla, hFe] at her
        obtain ⟨f0, f1, f2, f3, rfl⟩ : ∃ f0 f1 f2 f3, F = [f0, f1, f2, f3] := ⟨_, _, _, _, Mk.len4 hF.1⟩
        obtain ⟨d0, d1, d2, d3, hde⟩ : ∃ d0 d1 d2 d3, zw andN [m0, m1, m2, m3] [f0, f1, f2, f3] = [d0, d1, d2, d3] := ⟨_, _, _, _, Mk.len4 (zw_len hw.1 hF.1)⟩
        rw [hde] at her
        have KM := Lib.hid (show ∀ V : World, Calls Try.prog 53 #[.agg #[.int .u64 m0, .int .u64 m1, .int .u64 m2, .int .u64 m3], .agg #[.int .u64 f0, .int .u64 f1, .int .u64 f2, .int .u64 f3]] V fun e w' => e = .returned (.agg #[.int .u64 d0, .int .u64 d1, .int .u64 d2, .int .u64 d3]) ∧ Below V.heap.size V w' from fun V => by
          have := rMinus_any m0 m1 m2 m3 f0 f1 f2 f3 V hw hF
          rw [hde] at this
          exact this)
        have KF := Lib.hid (show ∀ V va vb nb Dn, RPool V r s q va vb na nb Ow Dn → Calls Try.prog 14 #[.pointer (some ⟨r, 0, none⟩)] V fun e w' => e = .returned (.agg #[.int .u64 f0, .int .u64 f1, .int .u64 f2, .int .u64 f3]) ∧ Below V.heap.size V w' from fun V va vb nb Dn hV => by
          have := rfree_any hV hm
          rw [hFe] at this
          exact this)
        have HW := Lib.hid hw
        obtain ⟨g, cap, rfl⟩ := own_some HH.out.ra h1
        obtain ⟨i0, hi, hz0, hz1, hz2⟩ := info_parts info3
        clear hFe hde hF hw hla
        by_cases hzd : [d0, d1, d2, d3] = Mk.zero
        · rw [if_neg (by rintro e; exact e hzd)] at her
          have td := zero_yes hzd
          subst her
          clear hzd
          go_enter Try.func34, Try.ntmps34
          go_wp2_with fail
          refine (KO.out _).mono ?_
          rintro _ w1 ⟨rfl, rfl⟩
          go_wp2_with fail
          refine KH.out.mono ?_
          rintro _ w2 ⟨rfl, hb⟩
          have H2 := Lib.hid (HH.out.next hb)
          replace k0 := k0.next hb
          replace hba := bmore hba hb
          clear hb c0 c1 c2 c3 t0 KH KO HH
          go_wp2_with fail
          have A0 := In.cell (B := w2.heap.size) k0.lt (k0.cell 0 _ rfl)
          have A1 := In.cell (B := w2.heap.size) k0.lt (k0.cell 1 _ rfl)
          have A2 := In.cell (B := w2.heap.size) k0.lt (k0.cell 2 _ rfl)
          have A3 := In.cell (B := w2.heap.size) k0.lt (k0.cell 3 _ rfl)
          have hIn := inNonempty w2.heap.size w2
          have KFW := Lib.hid (fun i : In w2.heap.size w2 => KF.out i.val _ _ _ _ (H2.out.next i.ok))
          refine region_in w2.heap.size (by kernel_rfl) (by kernel_rfl) ?_
          repeat (go_big_quiet_step (first | (go_at_call 14; with_reducible exact Calls.in_of (Nat.le_refl _) (KFW.out _)) | (go_at_call 53; with_reducible exact Calls.in_of (Nat.le_refl _) (KM.out _))))
          refine wpQuiet_nil ?_
          intro w4 hb4
          have H4 := Lib.hid (H2.out.next hb4)
          replace k0 := k0.next hb4
          replace hba := bmore hba hb4
          clear hb4 A0 A1 A2 A3 hIn KFW KF KM H2
          have c0 := k0.cell 0 _ rfl
          have c1 := k0.cell 1 _ rfl
          have c2 := k0.cell 2 _ rfl
          have c3 := k0.cell 3 _ rfl
          have KG := Lib.hid (give_any H4.out hm n m0 m1 m2 m3 HW.out)
          go_wp2_with fail
          refine KG.out.mono ?_
          rintro _ w5 ⟨⟨u, rfl⟩, hR5, hG5⟩
          have hgb : r + 1 ≤ g ∧ g < w5.heap.size := own_blk hR5.ra rfl
          have hr4 := H4.out.blk.lt
          have hbr : Td (RX r (.slice (some ⟨g, 0, none⟩) na cap) vb) w w5 := (Td.of_below hba).trans (Td.grown hG5 (fun k e => .inr (.inl e)))
          have H5 := Lib.hid hR5
          clear hR5 hG5 KG H4 c0 c1 c2 c3 k0 hba
          have c3 := H5.out.blk.cell 3 _ rfl
          obtain ⟨A, capB, rfl⟩ := own_form H5.out.rb
          have HPB := Lib.hid (fun v' w6 q1 q2 q3 => RPool.pushB (x := n) (vb' := v') (w6 := w6) H5.out q1 q2 q3)
          go_wp2_with (at_builtin; refine wpList_append_own_at _ rfl _ _ 44 rfl (r + 1) 3 i0 (.int .i64 0) 1 8 Try.underlying44 hi hz0 hz1 hz2 rfl (by decide) _ _ _ rfl (H5.out.rb.alloc _) ⟨w5.heap.size, 0, none⟩ 1 1 [.int .i64 n] rfl rfl (cell_one_new _ _ _) (by simp [Value.oneCell']) (by unfold maxLen; omega) (by omega) (by have := H5.out.blk.lt; simp; omega) ?_; intro v8 w8 hown8 hg8 _ hat8; obtain ⟨y1, y2, y3, y4⟩ := HPB.out v8 w8 hown8 hg8 hat8; obtain ⟨A8, cap8, rfl⟩ := own_form hown8)
          go_ret
          exact .inr ⟨trivial, rfl, ⟨_, y3⟩, hbr.trans y4⟩
        · rw [if_pos hzd] at her
          have td := zero_no hzd
          subst her
          clear hzd
          go_enter Try.func34, Try.ntmps34
          go_wp2_with fail
          refine (KO.out _).mono ?_
          rintro _ w1 ⟨rfl, rfl⟩
          go_wp2_with fail
          refine KH.out.mono ?_
          rintro _ w2 ⟨rfl, hb⟩
          have H2 := Lib.hid (HH.out.next hb)
          replace k0 := k0.next hb
          replace hba := bmore hba hb
          clear hb c0 c1 c2 c3 t0 KH KO HH
          go_wp2_with fail
          have A0 := In.cell (B := w2.heap.size) k0.lt (k0.cell 0 _ rfl)
          have A1 := In.cell (B := w2.heap.size) k0.lt (k0.cell 1 _ rfl)
          have A2 := In.cell (B := w2.heap.size) k0.lt (k0.cell 2 _ rfl)
          have A3 := In.cell (B := w2.heap.size) k0.lt (k0.cell 3 _ rfl)
          have hIn := inNonempty w2.heap.size w2
          have KFW := Lib.hid (fun i : In w2.heap.size w2 => KF.out i.val _ _ _ _ (H2.out.next i.ok))
          refine region_in w2.heap.size (by kernel_rfl) (by kernel_rfl) ?_
          repeat (go_big_quiet_step (first | (go_at_call 14; with_reducible exact Calls.in_of (Nat.le_refl _) (KFW.out _)) | (go_at_call 53; with_reducible exact Calls.in_of (Nat.le_refl _) (KM.out _))))
          refine wpQuiet_nil ?_
          intro w4 hb4
          replace hba := bmore hba hb4
          clear hb4 A0 A1 A2 A3 hIn KFW KF KM H2 k0
          go_wp2_with fail
          go_ret
          exact .inl ⟨by decide, rfl, hba⟩
end Go.Proofs.Ythmlibapjhmdbaa
/- The document's Assign, of any wish. -/
namespace Go.Proofs.Ythmlibapjhmdbaa
open Go.RowKit Go.Shelf Go.Maps

theorem gives_told {w : World} {zs : List Nat} {n : Nat} {e : Ending} {w' : World} (hn : zs.length = n) (h : GivesN w zs n e w') : Told w zs n 0 e w' := by
  obtain ⟨v, rfl, hrow, hb⟩ := h
  obtain ⟨A, cap, rfl⟩ := own_form hrow
  exact ⟨A, cap, rfl, nats_nv hn hrow, hb⟩
/-- What the document's Assign gives: a mask for each rank. -/
def Gav (w w' : World) (e : Ending) : Prop :=
  ∃ (gm R cap : Nat) (ms : List (List Nat)), e = .returned (.tuple #[.slice (some ⟨gm, 0, none⟩) R cap, .int .i64 0]) ∧ w.heap.size ≤ gm ∧ MasksAt w' w'.heap.size gm ms ∧ (∀ m ∈ ms, Mk.W4 m) ∧ ms.length = R ∧ R ≤ 32 ∧ Below w.heap.size w w'
theorem rk_W4 (fs : List Nat) (R Q : Nat) (hx : ∀ x ∈ fs, x < 256) : ∀ m ∈ rk fs R Q, Mk.W4 m := by
  intro m hm
  obtain ⟨i, _, rfl⟩ := List.mem_map.1 hm
  exact Mk.ofL_W4 fun x h => hx x (List.mem_of_mem_drop (List.mem_of_mem_take h))
theorem rassign_of {s q : Nat} {d : Int} {xs : List Nat} {n : Nat} (hd : ∀ W, Calls Try.prog 62 #[.agg #[.int .i64 s, .int .i64 q], .int .i64 d] W (Told W xs n 0)) (hn : xs.length = n) (hl : n ≤ 256) (hx : ∀ x ∈ xs, x < 256) (r pe : Int) (a b c e : Nat) (w : World) (hw : Mk.W4 [a, b, c, e]) :
    Calls Try.prog 51 #[.agg #[.int .i64 s, .int .i64 q], .agg #[.int .u64 a, .int .u64 b, .int .u64 c, .int .u64 e, .int .i64 r, .int .i64 pe, .int .i64 d]] w fun e w' => (∃ er : Int, e = .returned (.tuple #[.slice none 0 0, .int .i64 er]) ∧ er ≠ 0 ∧ Below w.heap.size w w') ∨ Gav w w' e := by
  rcases ROk_or r pe with ⟨R, Q, rfl, rfl, hR⟩ | hR
  · refine (rAssign_in s q d xs n R Q a b c e w hd hn hl hx hR hw).mono ?_
    rintro e' w' (⟨_, rfl, hb⟩ | ⟨_, g, cap, rfl, hgm, hM, hb⟩)
    · exact .inl ⟨12, rfl, by decide, hb⟩
    · exact .inr ⟨g, R, cap, _, rfl, hgm, hM, rk_W4 _ R Q (frk_lt hx n), rk_len _ R Q, hR.2.1, hb⟩
  · refine (rAssign_arg s q d r pe xs n a b c e w hd hR).mono ?_
    rintro e' w' ⟨rfl, hb⟩
    exact .inl ⟨1, rfl, by decide, hb⟩
theorem rassign_any (s q : Nat) (d r pe : Int) (a b c e : Nat) (w : World) (hL : LOk s q) (hw : Mk.W4 [a, b, c, e]) :
    Calls Try.prog 51 #[.agg #[.int .i64 s, .int .i64 q], .agg #[.int .u64 a, .int .u64 b, .int .u64 c, .int .u64 e, .int .i64 r, .int .i64 pe, .int .i64 d]] w fun e w' => (∃ er : Int, e = .returned (.tuple #[.slice none 0 0, .int .i64 er]) ∧ er ≠ 0 ∧ Below w.heap.size w w') ∨ Gav w w' e := by
  have h5 := hL.2.2.2.2
  by_cases h0 : d = 0
  · subst h0
    refine rassign_of (fun W => (rOrder_block s q W hL).mono fun _ _ h => gives_told (by simp) h) (by simp) h5 (fun x hx => ?_) r pe a b c e w hw
    simp at hx
    omega
  by_cases h1 : d = 1
  · subst h1
    refine rassign_of (fun W => (rOrder_cyclic s q W hL).mono fun _ _ h => gives_told (by simp) h) (by simp) h5 (fun x hx => ?_) r pe a b c e w hw
    obtain ⟨i, hi, rfl⟩ := List.mem_map.1 hx
    have := cyc_lt2 hL.1 (List.mem_range.1 hi)
    omega
  · refine (rAssign_no s q d r pe a b c e w (fun W => rOrder_none s q d W hL (by omega))).mono ?_
    rintro e' w' ⟨rfl, hb⟩
    exact .inl ⟨1, rfl, by decide, hb⟩
end Go.Proofs.Ythmlibapjhmdbaa
/- What Assign, Reserve and Take come to, exactly. -/
namespace Go.Proofs.Ythmlibapjhmdbaa
open Go.RowKit Go.Shelf Go.Maps

theorem frk_whole {d : Int} {fid s p : Nat} {of : Nat → Nat} (hd : IsDist d fid s p of) (h : LOk s p) (F : List Nat) : frk F ((List.range (s * p)).map of) (s * p) = (fr F (upto of (s * p))).map (·.1) := by
  rw [fr_vals, dist_vals hd h]
  unfold frk
  rw [List.take_of_length_le (by simp)]
theorem ranks_rk (zs : List Core) (R Q : Nat) : ranks (zs.take (R * Q)) R Q = rk (zs.map (·.1)) R Q := by
  unfold ranks rk
  apply List.map_congr_left
  intro i hi
  rw [List.mem_range] at hi
  congr 1
  rw [List.map_take, List.drop_take, List.take_take]
  have h1 : (i + 1) * Q ≤ R * Q := Nat.mul_le_mul_right Q hi
  rw [Nat.add_mul, Nat.one_mul] at h1
  rw [Nat.min_eq_left (by omega)]
/-- The cores in the order that is wished for. -/
def odC (s q : Nat) (d : Int) : List Nat := (List.range (s * q)).map (if d = 0 then id else cyc s q)
theorem odC_of {d : Int} {fid s q : Nat} {of : Nat → Nat} (hD : IsDist d fid s q of) : odC s q d = (List.range (s * q)).map of := by
  rcases hD with ⟨rfl, _, rfl⟩ | ⟨rfl, _, rfl⟩ <;> rfl
/-- The free ones, in that order. -/
def asN (F : List Nat) (s q : Nat) (d : Int) : List Nat := frk F (odC s q d) (s * q)
theorem asN_of {d : Int} {fid s q : Nat} {of : Nat → Nat} (hD : IsDist d fid s q of) (hL : LOk s q) (F : List Nat) : asN F s q d = (fr F (upto of (s * q))).map (·.1) := by
  unfold asN
  rw [odC_of hD, frk_whole hD hL]
/-- What Assign tells. -/
def asE (F : List Nat) (s q : Nat) (r pe d : Int) : Int := if ¬ (d = 0 ∨ d = 1) ∨ ¬ (1 ≤ r ∧ r ≤ 32 ∧ 1 ≤ pe ∧ pe ≤ 256) then 1 else if (asN F s q d).length < r.toNat * pe.toNat then 12 else 0
def asM (F : List Nat) (s q : Nat) (r pe d : Int) : List (List Nat) := rk (asN F s q d) r.toNat pe.toNat
theorem asE_no {F : List Nat} {s q : Nat} {r pe d : Int} (h : ¬ (d = 0 ∨ d = 1)) : asE F s q r pe d = 1 := by unfold asE; rw [if_pos (.inl h)]
theorem asE_arg {F : List Nat} {s q : Nat} {r pe d : Int} (h : RBad r pe) : asE F s q r pe d = 1 := by
  unfold asE; rw [if_pos (.inr (by unfold RBad at h; omega))]
theorem asE_few {F : List Nat} {s q a c : Nat} {d : Int} (hd : d = 0 ∨ d = 1) (hR : ROk a c) (h : (asN F s q d).length < a * c) : asE F s q a c d = 12 := by
  unfold asE; rw [if_neg (by unfold ROk at hR; omega), if_pos (by simpa using h)]
theorem asE_ok {F : List Nat} {s q a c : Nat} {d : Int} (hd : d = 0 ∨ d = 1) (hR : ROk a c) (h : ¬ (asN F s q d).length < a * c) : asE F s q a c d = 0 := by
  unfold asE; rw [if_neg (by unfold ROk at hR; omega), if_neg (by simpa using h)]

/-- What Reserve gives: these masks, together the owner's, of those that were free. -/
def GotX (w w' : World) (p b k s q : Nat) (g : Int → Option Sh) (n : Int) (ms : List (List Nat)) (e : Ending) : Prop :=
  ∃ (gm R : Nat) (c : Sh), e = .returned (.tuple #[.slice (some ⟨gm, 0, none⟩) R R, .int .i64 0]) ∧ w.heap.size ≤ gm ∧ Row .u64 40 w' gm ms.flatten ∧ (∀ m ∈ ms, Mk.W4 m) ∧ ms.length = R ∧ R ≤ 32 ∧ c.m = orAll ms ∧ c.t = false ∧ c.m ≠ Mk.zero ∧ (∀ d, d < 256 → Mk.hasB c.m d = true → Mk.hasB (freeM (Mk.ofL (List.range (s * q))) g) d = true) ∧ Turned w w' p b (k + 1) s q (fun m => if m = n then some c else g m)
/-- What Reserve tells. -/
noncomputable def rsE (s q : Nat) (g : Int → Option Sh) (n r pe d : Int) : Int := if isOwn n = false then 1 else if (g n).isSome = true then 14 else asE (freeM (Mk.ofL (List.range (s * q))) g) s q r pe d
noncomputable def rsM (s q : Nat) (g : Int → Option Sh) (r pe d : Int) : List (List Nat) := asM (freeM (Mk.ofL (List.range (s * q))) g) s q r pe d
theorem reserve_ex {w : World} {p b k s q : Nat} {g : Int → Option Sh} (h : PoolAt w p b k s q g) (hL : LOk s q) {n : Int} (hn : (Lit.int .i64 n).wf = true) (x0 x1 x2 x3 : Nat) (r pe d : Int) (hk : k < 1000000) : Calls Try.prog 26 #[.pointer (some ⟨p, 0, none⟩), .int .i64 n, .agg #[.int .u64 x0, .int .u64 x1, .int .u64 x2, .int .u64 x3, .int .i64 r, .int .i64 pe, .int .i64 d]] w fun e w' => (rsE s q g n r pe d ≠ 0 ∧ e = .returned (.tuple #[.slice none 0 0, .int .i64 (rsE s q g n r pe d)]) ∧ Below w.heap.size w w') ∨ (rsE s q g n r pe d = 0 ∧ isOwn n = true ∧ (g n).isSome = false ∧ GotX w w' p b k s q g n (rsM s q g r pe d) e) := by
  obtain ⟨E, hE⟩ : ∃ E, rsE s q g n r pe d = E := ⟨_, rfl⟩
  rw [hE]
  unfold rsE at hE
  cases ho : isOwn n with
  | false =>
    rw [if_pos ho] at hE
    subst hE
    refine (reserve_bad h hn x0 x1 x2 x3 r pe d (fun V => by have := isOwner_any n V; rw [ho] at this; exact this)).mono ?_
    rintro e w' ⟨rfl, hb⟩
    exact .inl ⟨by decide, rfl, hb⟩
  | true =>
    rw [if_neg (by rw [ho]; decide)] at hE
    have KO : ∀ V : World, Calls Try.prog 45 #[.int .i64 n] V fun e w' => e = .returned (.bool true) ∧ V = w' := fun V => by have := isOwner_any n V; rw [ho] at this; exact this
    cases hg : (g n).isSome with
    | true =>
      rw [if_pos hg] at hE
      subst hE
      refine (reserve_has h hn x0 x1 x2 x3 r pe d KO hg).mono ?_
      rintro e w' ⟨rfl, hb⟩
      exact .inl ⟨by decide, rfl, hb⟩
    | false =>
      rw [if_neg (by rw [hg]; decide)] at hE
      unfold rsM
      have hF := freeM_W4 (Mk.ofL (List.range (s * q))) g
      have KF0 : ∀ V : World, PoolAt V p b k s q g → Calls Try.prog 13 #[.pointer (some ⟨p, 0, none⟩)] V fun e w' => e = .returned (.agg (vs .u64 (freeM (Mk.ofL (List.range (s * q))) g))) ∧ Below V.heap.size V w' := fun V hV => free_fix hV hL
      revert KF0 hF
      obtain ⟨F, hFe⟩ : ∃ F, freeM (Mk.ofL (List.range (s * q))) g = F := ⟨_, rfl⟩
      unfold GotX
      rw [hFe] at hE ⊢
      intro hF KF0
      obtain ⟨f0, f1, f2, f3, rfl⟩ : ∃ f0 f1 f2 f3, F = [f0, f1, f2, f3] := ⟨_, _, _, _, Mk.len4 hF.1⟩
      have KF : ∀ V : World, PoolAt V p b k s q g → Calls Try.prog 13 #[.pointer (some ⟨p, 0, none⟩)] V fun e w' => e = .returned (.agg #[.int .u64 f0, .int .u64 f1, .int .u64 f2, .int .u64 f3]) ∧ Below V.heap.size V w' := KF0
      by_cases hd : d = 0 ∨ d = 1
      · obtain ⟨fid, of, hD⟩ : ∃ fid of, IsDist d fid s q of := by
          rcases hd with rfl | rfl
          · exact ⟨84, id, .inl ⟨rfl, rfl, rfl⟩⟩
          · exact ⟨85, cyc s q, .inr ⟨rfl, rfl, rfl⟩⟩
        have hN := asN_of hD hL [f0, f1, f2, f3]
        rcases ROk_or r pe with ⟨a, c, rfl, rfl, hR⟩ | hR
        · by_cases hf : (fr [f0, f1, f2, f3] (upto of (s * q))).length < a * c
          · rw [asE_few hd hR (by rw [hN, List.length_map]; exact hf)] at hE
            subst hE
            refine (reserve_few h hn x0 x1 x2 x3 a c d f0 f1 f2 f3 12 (by decide) KO hg KF (fun V => assign_few hD a c f0 f1 f2 f3 V hL hR hF hf)).mono ?_
            rintro e w' ⟨rfl, hb⟩
            exact .inl ⟨by decide, rfl, hb⟩
          · rw [asE_ok hd hR (by rw [hN, List.length_map]; exact hf)] at hE
            subst hE
            have hz : 1 ≤ (wished [f0, f1, f2, f3] of (s * q) (a * c)).length := by
              have := mul_pos' hR
              unfold wished
              rw [List.length_take]
              omega
            have hS := ranks_some hR.1 hR.2.2.1 hz
            have hl := ranks_len (wished [f0, f1, f2, f3] of (s * q) (a * c)) a c
            have hW4 := ranks_W4 (wished [f0, f1, f2, f3] of (s * q) (a * c)) a c
            have hI := fun d => ranks_free (F := [f0, f1, f2, f3]) of (s * q) (a * c) a c (d := d)
            have hM : asM [f0, f1, f2, f3] s q a c d = ranks (wished [f0, f1, f2, f3] of (s * q) (a * c)) a c := by
              unfold asM wished
              rw [ranks_rk, hN]
              rfl
            have KA : ∀ V : World, Calls Try.prog 46 #[.agg #[.int .i64 s, .int .i64 q], .agg #[.int .u64 f0, .int .u64 f1, .int .u64 f2, .int .u64 f3, .int .i64 a, .int .i64 c, .int .i64 d]] V (Lays V (ranks (wished [f0, f1, f2, f3] of (s * q) (a * c)) a c) a) := fun V => assign_ok hD a c f0 f1 f2 f3 V hL hR hF (by omega)
            rw [hM]
            revert hS hl hW4 hI KA
            generalize ranks (wished [f0, f1, f2, f3] of (s * q) (a * c)) a c = ms
            intro hS hl hW4 hI KA
            have hor := orAll_W4 ms hW4
            obtain ⟨a0, a1, a2, a3, ea⟩ : ∃ a0 a1 a2 a3, orAll ms = [a0, a1, a2, a3] := ⟨_, _, _, _, Mk.len4 hor.1⟩
            refine (reserve_ok h hn x0 x1 x2 x3 a c d hk ⟨orAll ms, false, hor⟩ f0 f1 f2 f3 a0 a1 a2 a3 a ms.flatten ea rfl KO hg KF KA (fun V gm hr => by
              have := union_any gm a a ms V (masks_row hr (fun m hm => (hW4 m hm).1)) hW4 hl hR.2.1
              rw [ea] at this
              exact this)).mono ?_
            rintro e w' ⟨gm, rfl, h1, h2, h3⟩
            exact .inr ⟨rfl, rfl, rfl, gm, a, ⟨orAll ms, false, hor⟩, rfl, h1, h2, hW4, hl, hR.2.1, rfl, rfl, hS, fun d _ hx => hI d hx, h3⟩
        · rw [asE_arg hR] at hE
          subst hE
          refine (reserve_few h hn x0 x1 x2 x3 r pe d f0 f1 f2 f3 1 (by decide) KO hg KF (fun V => assign_arg hD r pe f0 f1 f2 f3 V hL hR)).mono ?_
          rintro e w' ⟨rfl, hb⟩
          exact .inl ⟨by decide, rfl, hb⟩
      · rw [asE_no hd] at hE
        subst hE
        refine (reserve_few h hn x0 x1 x2 x3 r pe d f0 f1 f2 f3 1 (by decide) KO hg KF (fun V => assign_no s q d r pe f0 f1 f2 f3 V (fun W => dist_none s q d W hL (by simpa using fun h => hd (.inl h)) (by simpa using fun h => hd (.inr h))))).mono ?_
        rintro e w' ⟨rfl, hb⟩
        exact .inl ⟨by decide, rfl, hb⟩

/-- What Take tells. -/
noncomputable def tkE (s q : Nat) (g : Int → Option Sh) (n : Int) (m : List Nat) : Int := if isOwn n = false ∨ m = Mk.zero then 1 else if (g n).isSome = true then 14 else if zw andN m (freeM (Mk.ofL (List.range (s * q))) g) ≠ Mk.zero then 12 else 0
theorem take_ex {w : World} {p b k s q : Nat} {g : Int → Option Sh} (h : PoolAt w p b k s q g) (hL : LOk s q) {n : Int} (hn : (Lit.int .i64 n).wf = true) (a0 a1 a2 a3 : Nat) (ha : Mk.W4 [a0, a1, a2, a3]) (hk : k < 1000000) :
    Calls Try.prog 27 #[.pointer (some ⟨p, 0, none⟩), .int .i64 n, .agg #[.int .u64 a0, .int .u64 a1, .int .u64 a2, .int .u64 a3]] w fun e w' =>
      (tkE s q g n [a0, a1, a2, a3] ≠ 0 ∧ e = .returned (.int .i64 (tkE s q g n [a0, a1, a2, a3])) ∧ Below w.heap.size w w') ∨
      (tkE s q g n [a0, a1, a2, a3] = 0 ∧ e = .returned (.int .i64 0) ∧ isOwn n = true ∧ (g n).isSome = false ∧ [a0, a1, a2, a3] ≠ Mk.zero ∧ (∀ d, d < 256 → Mk.hasB [a0, a1, a2, a3] d = true → Mk.hasB (freeM (Mk.ofL (List.range (s * q))) g) d = true) ∧ Turned w w' p b (k + 1) s q (fun m => if m = n then some ⟨[a0, a1, a2, a3], true, ha⟩ else g m)) := by
  obtain ⟨E, hE⟩ : ∃ E, tkE s q g n [a0, a1, a2, a3] = E := ⟨_, rfl⟩
  rw [hE]
  unfold tkE at hE
  cases ho : isOwn n with
  | false =>
    rw [if_pos (.inl ho)] at hE
    subst hE
    refine (take_none h hn a0 a1 a2 a3 (fun V => by have := isOwner_any n V; rw [ho] at this; exact this)).mono ?_
    rintro e w' ⟨rfl, hb⟩
    exact .inl ⟨by decide, rfl, hb⟩
  | true =>
    have KO : ∀ V : World, Calls Try.prog 45 #[.int .i64 n] V fun e w' => e = .returned (.bool true) ∧ V = w' := fun V => by have := isOwner_any n V; rw [ho] at this; exact this
    by_cases hz : [a0, a1, a2, a3] = Mk.zero
    · rw [if_pos (.inr hz)] at hE
      subst hE
      refine (take_empty h hn a0 a1 a2 a3 KO (fun V => by have := isEmpty_any a0 a1 a2 a3 V; rw [zero_iff, decide_eq_true hz] at this; exact this)).mono ?_
      rintro e w' ⟨rfl, hb⟩
      exact .inl ⟨by decide, rfl, hb⟩
    rw [if_neg (by rintro (e | e); · rw [ho] at e; cases e
                   · exact hz e)] at hE
    have KE : ∀ V : World, Calls Try.prog 48 #[.agg #[.int .u64 a0, .int .u64 a1, .int .u64 a2, .int .u64 a3]] V fun e w' => e = .returned (.bool false) ∧ Below V.heap.size V w' := fun V => by have := isEmpty_any a0 a1 a2 a3 V; rw [zero_iff, decide_eq_false hz] at this; exact this
    cases hg : (g n).isSome with
    | true =>
      rw [if_pos hg] at hE
      subst hE
      refine (take_state h hn a0 a1 a2 a3 hg KO KE).mono ?_
      rintro e w' ⟨rfl, hb⟩
      exact .inl ⟨by decide, rfl, hb⟩
    | false =>
      rw [if_neg (by rw [hg]; decide)] at hE
      have hF := freeM_W4 (Mk.ofL (List.range (s * q))) g
      have KF0 : ∀ V : World, PoolAt V p b k s q g → Calls Try.prog 13 #[.pointer (some ⟨p, 0, none⟩)] V fun e w' => e = .returned (.agg (vs .u64 (freeM (Mk.ofL (List.range (s * q))) g))) ∧ Below V.heap.size V w' := fun V hV => free_fix hV hL
      revert KF0 hF hE
      generalize freeM (Mk.ofL (List.range (s * q))) g = F
      intro hE hF KF0
      obtain ⟨f0, f1, f2, f3, rfl⟩ : ∃ f0 f1 f2 f3, F = [f0, f1, f2, f3] := ⟨_, _, _, _, Mk.len4 hF.1⟩
      obtain ⟨d0, d1, d2, d3, hd⟩ : ∃ d0 d1 d2 d3, zw andN [a0, a1, a2, a3] [f0, f1, f2, f3] = [d0, d1, d2, d3] := ⟨_, _, _, _, Mk.len4 (zw_len ha.1 hF.1)⟩
      rw [hd] at hE
      have KM : ∀ V : World, Calls Try.prog 24 #[.agg #[.int .u64 a0, .int .u64 a1, .int .u64 a2, .int .u64 a3], .agg #[.int .u64 f0, .int .u64 f1, .int .u64 f2, .int .u64 f3]] V fun e w' => e = .returned (.agg #[.int .u64 d0, .int .u64 d1, .int .u64 d2, .int .u64 d3]) ∧ Below V.heap.size V w' := fun V => by
        have := minus_any [a0, a1, a2, a3] [f0, f1, f2, f3] V ha hF
        rw [hd] at this
        exact this
      by_cases hz2 : [d0, d1, d2, d3] = Mk.zero
      · rw [if_neg (by rintro e; exact e hz2)] at hE
        subst hE
        refine (take_walk h hn hk ⟨[a0, a1, a2, a3], true, ha⟩ a0 a1 a2 a3 f0 f1 f2 f3 d0 d1 d2 d3 rfl rfl hg KO KE KF0 KM (fun V => by have := isEmpty_any d0 d1 d2 d3 V; rw [zero_iff, decide_eq_true hz2] at this; exact this)).mono ?_
        rintro e w' ⟨rfl, hT⟩
        refine .inr ⟨rfl, rfl, rfl, rfl, hz, fun d hd2 hx => ?_, hT⟩
        have := has_andN ha hF hd2
        rw [hd, hz2, Mk.has_zero, hx] at this
        simpa using this
      · rw [if_pos hz2] at hE
        subst hE
        refine (take_cores h hn a0 a1 a2 a3 f0 f1 f2 f3 d0 d1 d2 d3 hg KO KE KF0 KM (fun V => by have := isEmpty_any d0 d1 d2 d3 V; rw [zero_iff, decide_eq_false hz2] at this; exact this)).mono ?_
        rintro e w' ⟨rfl, hb⟩
        exact .inl ⟨by decide, rfl, hb⟩

/-- What the document's Assign gives: these masks. -/
def GavX (w w' : World) (ms : List (List Nat)) (e : Ending) : Prop :=
  ∃ (gm R cap : Nat), e = .returned (.tuple #[.slice (some ⟨gm, 0, none⟩) R cap, .int .i64 0]) ∧ w.heap.size ≤ gm ∧ MasksAt w' w'.heap.size gm ms ∧ (∀ m ∈ ms, Mk.W4 m) ∧ ms.length = R ∧ R ≤ 32 ∧ Below w.heap.size w w'
theorem rassign_of' {s q : Nat} {d : Int} (hd : d = 0 ∨ d = 1) (KD : ∀ W, Calls Try.prog 62 #[.agg #[.int .i64 s, .int .i64 q], .int .i64 d] W (Told W (odC s q d) (s * q) 0)) (hl : s * q ≤ 256) (hx : ∀ x ∈ odC s q d, x < 256) (r pe : Int) (a b c e : Nat) (w : World) (hw : Mk.W4 [a, b, c, e]) :
    Calls Try.prog 51 #[.agg #[.int .i64 s, .int .i64 q], .agg #[.int .u64 a, .int .u64 b, .int .u64 c, .int .u64 e, .int .i64 r, .int .i64 pe, .int .i64 d]] w fun x w' => (asE [a, b, c, e] s q r pe d ≠ 0 ∧ x = .returned (.tuple #[.slice none 0 0, .int .i64 (asE [a, b, c, e] s q r pe d)]) ∧ Below w.heap.size w w') ∨ (asE [a, b, c, e] s q r pe d = 0 ∧ GavX w w' (asM [a, b, c, e] s q r pe d) x) := by
  rcases ROk_or r pe with ⟨R, Q, rfl, rfl, hR⟩ | hR
  · refine (rAssign_in s q d _ (s * q) R Q a b c e w KD (by simp [odC]) hl hx hR hw).mono ?_
    rintro e' w' (⟨h1, rfl, hb⟩ | ⟨h1, g, cap, rfl, hgm, hM, hb⟩)
    · rw [asE_few hd hR h1]
      exact .inl ⟨by decide, rfl, hb⟩
    · rw [asE_ok hd hR (Nat.not_lt.2 h1)]
      exact .inr ⟨rfl, g, R, cap, rfl, hgm, hM, rk_W4 _ R Q (frk_lt hx (s * q)), rk_len _ R Q, hR.2.1, hb⟩
  · refine (rAssign_arg s q d r pe _ (s * q) a b c e w KD hR).mono ?_
    rintro e' w' ⟨rfl, hb⟩
    rw [asE_arg hR]
    exact .inl ⟨by decide, rfl, hb⟩
theorem rassign_ex (s q : Nat) (d r pe : Int) (a b c e : Nat) (w : World) (hL : LOk s q) (hw : Mk.W4 [a, b, c, e]) :
    Calls Try.prog 51 #[.agg #[.int .i64 s, .int .i64 q], .agg #[.int .u64 a, .int .u64 b, .int .u64 c, .int .u64 e, .int .i64 r, .int .i64 pe, .int .i64 d]] w fun x w' => (asE [a, b, c, e] s q r pe d ≠ 0 ∧ x = .returned (.tuple #[.slice none 0 0, .int .i64 (asE [a, b, c, e] s q r pe d)]) ∧ Below w.heap.size w w') ∨ (asE [a, b, c, e] s q r pe d = 0 ∧ GavX w w' (asM [a, b, c, e] s q r pe d) x) := by
  have h5 := hL.2.2.2.2
  by_cases h0 : d = 0
  · subst h0
    refine rassign_of' (.inl rfl) (fun W => (rOrder_block s q W hL).mono fun _ _ h => gives_told (by simp [odC]) h) h5 (fun x hx => ?_) r pe a b c e w hw
    simp [odC] at hx
    omega
  by_cases h1 : d = 1
  · subst h1
    refine rassign_of' (.inr rfl) (fun W => (rOrder_cyclic s q W hL).mono fun _ _ h => gives_told (by simp [odC]) h) h5 (fun x hx => ?_) r pe a b c e w hw
    obtain ⟨i, hi, rfl⟩ := List.mem_map.1 hx
    have := cyc_lt2 hL.1 (List.mem_range.1 hi)
    exact Nat.lt_of_lt_of_le this h5
  · refine (rAssign_no s q d r pe a b c e w (fun W => rOrder_none s q d W hL (by omega))).mono ?_
    rintro e' w' ⟨rfl, hb⟩
    rw [asE_no (by omega)]
    exact .inl ⟨by decide, rfl, hb⟩
end Go.Proofs.Ythmlibapjhmdbaa
