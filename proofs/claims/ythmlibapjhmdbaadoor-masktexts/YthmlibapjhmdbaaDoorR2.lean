/- The document's List, And, Or, Minus, Lowest; told. -/
import Derived.Test.YthmlibapjhmdbaaDoorR1
import Derived.Test.YthmlibapjhmdbaaDoorW27
namespace Go.Proofs.YthmlibapjhmdbaaDoor
open Go.RowKit Go.Shelf

theorem own_cap {w : World} {base size n cap : Nat} {e : TypeId} {A : Option Addr} {xs : List Value} (h : w.ownsRow base e size (.slice A n cap) n xs) : n ≤ cap := by
  rcases h.2 with ⟨_, rfl⟩ | ⟨g, c, cur, h1, _, _, h4, _⟩
  · exact Nat.zero_le _
  · cases h1; exact h4
theorem fl_succ_yes {p : Nat → Bool} {k : Nat} (h : p k = true) : (List.range (k + 1)).filter p = (List.range k).filter p ++ [k] := by
  rw [List.range_succ, List.filter_append]; simp [h]
theorem fl_succ_no {p : Nat → Bool} {k : Nat} (h : p k = false) : (List.range (k + 1)).filter p = (List.range k).filter p := by
  rw [List.range_succ, List.filter_append]; simp [h]
theorem fl_len (p : Nat → Bool) (k : Nat) : ((List.range k).filter p).length ≤ k := by
  have := List.length_filter_le p (List.range k)
  rwa [List.length_range] at this
theorem fl_lt (p : Nat → Bool) : ∀ x ∈ (List.range 256).filter p, x < 256 := fun x hx => by simpa using (List.mem_filter.1 hx).1
theorem fl_has (p : Nat → Bool) {d : Nat} (hd : d < 256) : Mk.hasB (Mk.ofL ((List.range 256).filter p)) d = p d := by
  rw [Mk.has_ofL (fl_lt p), Bool.eq_iff_iff]
  simp [hd]
theorem fl_and {a b : List Nat} (ha : Mk.W4 a) (hb : Mk.W4 b) : Mk.ofL ((List.range 256).filter fun c => Mk.hasB a c && Mk.hasB b c) = zw Nat.land a b :=
  Mk.ext (Mk.ofL_W4 (fl_lt _)) (land_W4 ha hb) fun d hd => by rw [fl_has _ hd, has_land ha hb hd]
theorem fl_or {a b : List Nat} (ha : Mk.W4 a) (hb : Mk.W4 b) : Mk.ofL ((List.range 256).filter fun c => Mk.hasB a c || Mk.hasB b c) = zw Nat.lor a b :=
  Mk.ext (Mk.ofL_W4 (fl_lt _)) (lor_W4 ha hb) fun d hd => by rw [fl_has _ hd, has_lor ha hb hd]
theorem fl_minus {a b : List Nat} (ha : Mk.W4 a) (hb : Mk.W4 b) : Mk.ofL ((List.range 256).filter fun c => Mk.hasB a c && !Mk.hasB b c) = zw andN a b :=
  Mk.ext (Mk.ofL_W4 (fl_lt _)) (andN_W4 ha hb) fun d hd => by rw [fl_has _ hd, has_andN ha hb hd]

set_option maxRecDepth 100000 in
set_option maxHeartbeats 1000000 in
theorem rList_any (x0 x1 x2 x3 : Nat) (w : World) (hx : Mk.W4 [x0, x1, x2, x3]) :
    Calls Tryd.prog 15 #[.agg #[.int .u64 x0, .int .u64 x1, .int .u64 x2, .int .u64 x3]] w fun e w' => ∃ A ca, e = .returned (.slice A (S [x0, x1, x2, x3]).length ca) ∧ (S [x0, x1, x2, x3]).length ≤ ca ∧ NatsAt w' w'.heap.size A (S [x0, x1, x2, x3]) ∧ Below w.heap.size w w' := by
  obtain ⟨i0, hi, hz0, hz1, hz2⟩ := info_parts info3
  have HX := Lib.hid hx
  clear hx
  obtain ⟨p, hp⟩ : ∃ p, p = Mk.hasB [x0, x1, x2, x3] := ⟨_, rfl⟩
  have HP := Lib.hid hp
  clear hp
  go_enter Tryd.func15, Tryd.ntmps15
  go_wp2_with fail
  go_loopw [3, 4] (fun o i wr => ∃ (k : Nat), k ≤ 256 ∧ i = .int .i64 k ∧ wr.ownsRow (w.heap.size + 1) 3 1 o ((List.range k).filter p).length (nv ((List.range k).filter p)) ∧ Bk wr w.heap.size 24 #[.int .u64 x0, .int .u64 x1, .int .u64 x2, .int .u64 x3] ∧ Below w.heap.size w wr)
    (fun _ i _ => 256 - (intOf i).toNat)
  case atStart => exact ⟨0, Nat.zero_le _, rfl, World.ownsRow_nil _ _ _ _, Bk.new w 24 #[.int .u64 x0, .int .u64 x1, .int .u64 x2, .int .u64 x3], (Below.refl _ _).alloc (Nat.le_refl _) _⟩
  case round =>
    obtain ⟨k, hk, rfl, hrow, r0, hb⟩ := hrel
    have hlen := fl_len p k
    have hs0 := r0.lt
    by_cases hlt : k < 256
    · have H := rHas_in [x0, x1, x2, x3] k
      obtain ⟨c0, c1, c2, c3⟩ := r0.four
      rw [← HP.out] at H
      rcases hB : p k with _ | _
      · have hF := Lib.hid (fl_succ_no hB)
        generalize (List.range k).filter p = f at *
        obtain ⟨A, cap, rfl⟩ := own_form hrow
        rw [hB] at H
        replace H := Lib.hid H
        go_wp2_with fail
        refine (H.out _ HX.out hlt).mono ?_
        rintro e w1 ⟨rfl, hb1⟩
        go_wp2_with fail
        go_roundw
        case rel => exact ⟨k + 1, by omega, by go_num, by rw [hF.out]; exact own_next hrow hb1, r0.next hb1, bmore hb hb1⟩
        case measure => simp [intOf]; omega
      · have hF := Lib.hid (fl_succ_yes hB)
        generalize (List.range k).filter p = f at *
        obtain ⟨A, cap, rfl⟩ := own_form hrow
        rw [hB] at H
        replace H := Lib.hid H
        go_wp2_with fail
        refine (H.out _ HX.out hlt).mono ?_
        rintro e w1 ⟨rfl, hb1⟩
        replace hrow := own_next hrow hb1
        replace r0 := r0.next hb1
        have hs1 := r0.lt
        replace hb := bmore hb hb1
        clear hb1 c0 c1 c2 c3
        go_wp2_with (at_builtin; refine wpList_append_own _ rfl _ _ 25 rfl (w.heap.size + 1) 3 i0 (.int .i64 0) 1 8 Tryd.underlying25 hi hz0 hz1 hz2 rfl (by decide) _ _ _ rfl (hrow.alloc _) ⟨w1.heap.size, 0, none⟩ 1 1 [.int .i64 (k : Int)] rfl rfl (cell_one_new _ _ _) (by simp [Value.oneCell']) (by unfold maxLen; omega) (by omega) (by simp; omega) ?_; intro v' w9 hown' hgrow _; obtain ⟨g', cap', rfl⟩ := ownsRow_succ hown'; have hb9 := appended_below hrow (by omega) hgrow)
        go_roundw
        case rel => exact ⟨k + 1, by omega, by go_num, by rw [hF.out, nv_snoc, List.length_append]; exact hown', r0.below hb9 (by omega), hb.trans (hb9.mono (by omega))⟩
        case measure => simp [intOf]; omega
    · obtain rfl : k = 256 := by omega
      have hS : Hid ((List.range 256).filter p = S [x0, x1, x2, x3]) := by show _ = _; rw [HP.out]; rfl
      rw [hS.out] at hrow
      obtain ⟨A, cap, rfl⟩ := own_form hrow
      have hA := nats_nv rfl hrow
      go_wp2_with fail
      go_ret
      exact ⟨A, cap, rfl, own_cap hrow, hA, hb⟩

set_option maxRecDepth 100000 in
set_option maxHeartbeats 1000000 in
theorem rAnd_any (x0 x1 x2 x3 y0 y1 y2 y3 : Nat) (w : World) (hx : Mk.W4 [x0, x1, x2, x3]) (hy : Mk.W4 [y0, y1, y2, y3]) :
    Calls Tryd.prog 25 #[.agg #[.int .u64 x0, .int .u64 x1, .int .u64 x2, .int .u64 x3], .agg #[.int .u64 y0, .int .u64 y1, .int .u64 y2, .int .u64 y3]] w fun e w' => e = .returned (.agg (vs .u64 (zw Nat.land [x0, x1, x2, x3] [y0, y1, y2, y3]))) ∧ Below w.heap.size w w' := by
  obtain ⟨i0, hi, hz0, hz1, hz2⟩ := info_parts info3
  have HX := Lib.hid hx
  have HY := Lib.hid hy
  have HE := Lib.hid (fl_and hx hy)
  have HW := Lib.hid (land_W4 hx hy)
  clear hx hy
  obtain ⟨p, hp⟩ : ∃ p, p = fun c => Mk.hasB [x0, x1, x2, x3] c && Mk.hasB [y0, y1, y2, y3] c := ⟨_, rfl⟩
  have HP := Lib.hid hp
  rw [← hp] at HE
  clear hp
  have r0 := (((Bk.new w 24 #[.int .u64 x0, .int .u64 x1, .int .u64 x2, .int .u64 x3]).alloc (.cells #[.int .u64 y0, .int .u64 y1, .int .u64 y2, .int .u64 y3] 24)).alloc (.cells #[.int .u64 0, .int .u64 0, .int .u64 0, .int .u64 0] 24))
  have r1 := ((Bk.new (w.alloc (.cells #[.int .u64 x0, .int .u64 x1, .int .u64 x2, .int .u64 x3] 24)) 24 #[.int .u64 y0, .int .u64 y1, .int .u64 y2, .int .u64 y3]).alloc (.cells #[.int .u64 0, .int .u64 0, .int .u64 0, .int .u64 0] 24))
  have r2 := Row.new ((w.alloc (.cells #[.int .u64 x0, .int .u64 x1, .int .u64 x2, .int .u64 x3] 24)).alloc (.cells #[.int .u64 y0, .int .u64 y1, .int .u64 y2, .int .u64 y3] 24)) .u64 24 Mk.zero #[.int .u64 0, .int .u64 0, .int .u64 0, .int .u64 0] rfl
  have hb0 := ((((Below.refl _ w).alloc (Nat.le_refl _) (.cells #[.int .u64 x0, .int .u64 x1, .int .u64 x2, .int .u64 x3] 24)).alloc (by simp) (.cells #[.int .u64 y0, .int .u64 y1, .int .u64 y2, .int .u64 y3] 24)).alloc (by simp; omega) (.cells #[.int .u64 0, .int .u64 0, .int .u64 0, .int .u64 0] 24))
  simp only [size_alloc] at r1 r2
  go_enter Tryd.func25, Tryd.ntmps25
  go_wp2_with fail
  go_loopw [5, 6] (fun o i wr => ∃ (k : Nat), k ≤ 256 ∧ i = .int .i64 k ∧ wr.ownsRow (w.heap.size + 3) 3 1 o ((List.range k).filter p).length (nv ((List.range k).filter p)) ∧ Bk wr w.heap.size 24 #[.int .u64 x0, .int .u64 x1, .int .u64 x2, .int .u64 x3] ∧ Bk wr (w.heap.size + 1) 24 #[.int .u64 y0, .int .u64 y1, .int .u64 y2, .int .u64 y3] ∧ Row .u64 24 wr (w.heap.size + 1 + 1) Mk.zero ∧ Below w.heap.size w wr)
    (fun _ i _ => 256 - (intOf i).toNat)
  case atStart => exact ⟨0, Nat.zero_le _, rfl, World.ownsRow_nil _ _ _ _, r0, r1, r2, hb0⟩
  case round =>
    clear r0 r1 r2 hb0
    obtain ⟨k, hk, rfl, hrow, r0, r1, r2, hb⟩ := hrel
    have hlen := fl_len p k
    have hs0 := r2.lt
    by_cases hlt : k < 256
    · have H1 := rHas_in [x0, x1, x2, x3] k
      have H2 := rHas_in [y0, y1, y2, y3] k
      have hpk : Hid (p k = (Mk.hasB [x0, x1, x2, x3] k && Mk.hasB [y0, y1, y2, y3] k)) := by show _ = _; rw [HP.out]
      obtain ⟨c0, c1, c2, c3⟩ := r0.four
      rcases h1 : Mk.hasB [x0, x1, x2, x3] k with _ | _
      · have hB : p k = false := by rw [hpk.out, h1]; rfl
        have hF := Lib.hid (fl_succ_no hB)
        generalize (List.range k).filter p = f at *
        obtain ⟨A, cap, rfl⟩ := own_form hrow
        rw [h1] at H1
        replace H1 := Lib.hid H1
        clear H2
        go_wp2_with fail
        refine (H1.out _ HX.out hlt).mono ?_
        rintro e w1 ⟨rfl, hb1⟩
        replace hrow := own_next hrow hb1; replace r0 := r0.next hb1; replace r1 := r1.next hb1; replace r2 := r2.next hb1; replace hb := bmore hb hb1
        have hs1 := r2.lt
        clear hb1 c0 c1 c2 c3
        go_wp2_with fail
        go_roundw
        case rel => exact ⟨k + 1, by omega, by go_num, by rw [hF.out]; exact hrow, r0, r1, r2, hb⟩
        case measure => simp [intOf]; omega
      · rw [h1] at H1
        replace H1 := Lib.hid H1
        rcases h2 : Mk.hasB [y0, y1, y2, y3] k with _ | _
        · have hB : p k = false := by rw [hpk.out, h1, h2]; rfl
          have hF := Lib.hid (fl_succ_no hB)
          generalize (List.range k).filter p = f at *
          obtain ⟨A, cap, rfl⟩ := own_form hrow
          rw [h2] at H2
          replace H2 := Lib.hid H2
          go_wp2_with fail
          refine (H1.out _ HX.out hlt).mono ?_
          rintro e w1 ⟨rfl, hb1⟩
          replace hrow := own_next hrow hb1; replace r0 := r0.next hb1; replace r1 := r1.next hb1; replace r2 := r2.next hb1; replace hb := bmore hb hb1
          clear hb1 c0 c1 c2 c3
          obtain ⟨c0, c1, c2, c3⟩ := r1.four
          go_wp2_with fail
          refine (H2.out _ HY.out hlt).mono ?_
          rintro e w2 ⟨rfl, hb1⟩
          replace hrow := own_next hrow hb1; replace r0 := r0.next hb1; replace r1 := r1.next hb1; replace r2 := r2.next hb1; replace hb := bmore hb hb1
          have hs1 := r2.lt
          clear hb1 c0 c1 c2 c3
          go_wp2_with fail
          go_roundw
          case rel => exact ⟨k + 1, by omega, by go_num, by rw [hF.out]; exact hrow, r0, r1, r2, hb⟩
          case measure => simp [intOf]; omega
        · have hB : p k = true := by rw [hpk.out, h1, h2]; rfl
          have hF := Lib.hid (fl_succ_yes hB)
          generalize (List.range k).filter p = f at *
          obtain ⟨A, cap, rfl⟩ := own_form hrow
          rw [h2] at H2
          replace H2 := Lib.hid H2
          go_wp2_with fail
          refine (H1.out _ HX.out hlt).mono ?_
          rintro e w1 ⟨rfl, hb1⟩
          replace hrow := own_next hrow hb1; replace r0 := r0.next hb1; replace r1 := r1.next hb1; replace r2 := r2.next hb1; replace hb := bmore hb hb1
          clear hb1 c0 c1 c2 c3
          obtain ⟨c0, c1, c2, c3⟩ := r1.four
          go_wp2_with fail
          refine (H2.out _ HY.out hlt).mono ?_
          rintro e w2 ⟨rfl, hb1⟩
          replace hrow := own_next hrow hb1; replace r0 := r0.next hb1; replace r1 := r1.next hb1; replace r2 := r2.next hb1; replace hb := bmore hb hb1
          have hs1 := r2.lt
          clear hb1 c0 c1 c2 c3
          go_wp2_with (at_builtin; refine wpList_append_own _ rfl _ _ 25 rfl (w.heap.size + 3) 3 i0 (.int .i64 0) 1 8 Tryd.underlying25 hi hz0 hz1 hz2 rfl (by decide) _ _ _ rfl (hrow.alloc _) ⟨w2.heap.size, 0, none⟩ 1 1 [.int .i64 (k : Int)] rfl rfl (cell_one_new _ _ _) (by simp [Value.oneCell']) (by unfold maxLen; omega) (by omega) (by simp; omega) ?_; intro v' w9 hown' hgrow _; obtain ⟨g', cap', rfl⟩ := ownsRow_succ hown'; have hb9 := appended_below hrow (by omega) hgrow)
          go_roundw
          case rel => exact ⟨k + 1, by omega, by go_num, by rw [hF.out, nv_snoc, List.length_append]; exact hown', r0.below hb9 (by omega), r1.below hb9 (by omega), r2.below hb9 (by omega), hb.trans (hb9.mono (by omega))⟩
          case measure => simp [intOf]; omega
    · obtain rfl : k = 256 := by omega
      have hwd := Lib.hid (wds_ofL (fl_lt p))
      have hz := Lib.hid (info40 HW.out.1)
      have hl4 := Lib.hid (zero_len HW.out)
      generalize (List.range 256).filter p = f at *
      obtain ⟨A, cap, rfl⟩ := own_form hrow
      have hA := nats_nv rfl hrow
      go_wp2_with fail
      refine (make_any A cap f.length f _ hA rfl (by omega)).mono ?_
      rintro e w2 ⟨rfl, hb2⟩
      rw [hwd.out, HE.out]
      replace r2 := r2.next hb2
      replace hb := bmore hb hb2
      go_wp2_with (refine store_law rfl 24 _ _ rfl (w.heap.size + 1 + 1) .u64 Mk.zero (zw Nat.land [x0, x1, x2, x3] [y0, y1, y2, y3]) rfl rfl 24 r2 hl4.out hz.out ?_; intro w7 hw7)
      exact bodyPost_ret (results_row rfl _ _ (w.heap.size + 1 + 1) .u64 24 _ _ rfl (r2.hidSet hw7) Tryd.underlying24 rfl hz.out) rfl ⟨rfl, below_hidSet hb hw7 (by omega)⟩

set_option maxRecDepth 100000 in
set_option maxHeartbeats 1000000 in
theorem rOr_any (x0 x1 x2 x3 y0 y1 y2 y3 : Nat) (w : World) (hx : Mk.W4 [x0, x1, x2, x3]) (hy : Mk.W4 [y0, y1, y2, y3]) :
    Calls Tryd.prog 27 #[.agg #[.int .u64 x0, .int .u64 x1, .int .u64 x2, .int .u64 x3], .agg #[.int .u64 y0, .int .u64 y1, .int .u64 y2, .int .u64 y3]] w fun e w' => e = .returned (.agg (vs .u64 (zw Nat.lor [x0, x1, x2, x3] [y0, y1, y2, y3]))) ∧ Below w.heap.size w w' := by
  obtain ⟨i0, hi, hz0, hz1, hz2⟩ := info_parts info3
  have HX := Lib.hid hx
  have HY := Lib.hid hy
  have HE := Lib.hid (fl_or hx hy)
  have HW := Lib.hid (lor_W4 hx hy)
  clear hx hy
  obtain ⟨p, hp⟩ : ∃ p, p = fun c => Mk.hasB [x0, x1, x2, x3] c || Mk.hasB [y0, y1, y2, y3] c := ⟨_, rfl⟩
  have HP := Lib.hid hp
  rw [← hp] at HE
  clear hp
  have r0 := (((Bk.new w 24 #[.int .u64 x0, .int .u64 x1, .int .u64 x2, .int .u64 x3]).alloc (.cells #[.int .u64 y0, .int .u64 y1, .int .u64 y2, .int .u64 y3] 24)).alloc (.cells #[.int .u64 0, .int .u64 0, .int .u64 0, .int .u64 0] 24))
  have r1 := ((Bk.new (w.alloc (.cells #[.int .u64 x0, .int .u64 x1, .int .u64 x2, .int .u64 x3] 24)) 24 #[.int .u64 y0, .int .u64 y1, .int .u64 y2, .int .u64 y3]).alloc (.cells #[.int .u64 0, .int .u64 0, .int .u64 0, .int .u64 0] 24))
  have r2 := Row.new ((w.alloc (.cells #[.int .u64 x0, .int .u64 x1, .int .u64 x2, .int .u64 x3] 24)).alloc (.cells #[.int .u64 y0, .int .u64 y1, .int .u64 y2, .int .u64 y3] 24)) .u64 24 Mk.zero #[.int .u64 0, .int .u64 0, .int .u64 0, .int .u64 0] rfl
  have hb0 := ((((Below.refl _ w).alloc (Nat.le_refl _) (.cells #[.int .u64 x0, .int .u64 x1, .int .u64 x2, .int .u64 x3] 24)).alloc (by simp) (.cells #[.int .u64 y0, .int .u64 y1, .int .u64 y2, .int .u64 y3] 24)).alloc (by simp; omega) (.cells #[.int .u64 0, .int .u64 0, .int .u64 0, .int .u64 0] 24))
  simp only [size_alloc] at r1 r2
  go_enter Tryd.func27, Tryd.ntmps27
  go_wp2_with fail
  go_loopw [5, 6] (fun o i wr => ∃ (k : Nat), k ≤ 256 ∧ i = .int .i64 k ∧ wr.ownsRow (w.heap.size + 3) 3 1 o ((List.range k).filter p).length (nv ((List.range k).filter p)) ∧ Bk wr w.heap.size 24 #[.int .u64 x0, .int .u64 x1, .int .u64 x2, .int .u64 x3] ∧ Bk wr (w.heap.size + 1) 24 #[.int .u64 y0, .int .u64 y1, .int .u64 y2, .int .u64 y3] ∧ Row .u64 24 wr (w.heap.size + 1 + 1) Mk.zero ∧ Below w.heap.size w wr)
    (fun _ i _ => 256 - (intOf i).toNat)
  case atStart => exact ⟨0, Nat.zero_le _, rfl, World.ownsRow_nil _ _ _ _, r0, r1, r2, hb0⟩
  case round =>
    clear r0 r1 r2 hb0
    obtain ⟨k, hk, rfl, hrow, r0, r1, r2, hb⟩ := hrel
    have hlen := fl_len p k
    have hs0 := r2.lt
    by_cases hlt : k < 256
    · have H1 := rHas_in [x0, x1, x2, x3] k
      have H2 := rHas_in [y0, y1, y2, y3] k
      have hpk : Hid (p k = (Mk.hasB [x0, x1, x2, x3] k || Mk.hasB [y0, y1, y2, y3] k)) := by show _ = _; rw [HP.out]
      obtain ⟨c0, c1, c2, c3⟩ := r0.four
      rcases h1 : Mk.hasB [x0, x1, x2, x3] k with _ | _
      · rw [h1] at H1
        replace H1 := Lib.hid H1
        rcases h2 : Mk.hasB [y0, y1, y2, y3] k with _ | _
        · have hB : p k = false := by rw [hpk.out, h1, h2]; rfl
          have hF := Lib.hid (fl_succ_no hB)
          generalize (List.range k).filter p = f at *
          obtain ⟨A, cap, rfl⟩ := own_form hrow
          rw [h2] at H2
          replace H2 := Lib.hid H2
          go_wp2_with fail
          refine (H1.out _ HX.out hlt).mono ?_
          rintro e w1 ⟨rfl, hb1⟩
          replace hrow := own_next hrow hb1; replace r0 := r0.next hb1; replace r1 := r1.next hb1; replace r2 := r2.next hb1; replace hb := bmore hb hb1
          clear hb1 c0 c1 c2 c3
          obtain ⟨c0, c1, c2, c3⟩ := r1.four
          go_wp2_with fail
          refine (H2.out _ HY.out hlt).mono ?_
          rintro e w2 ⟨rfl, hb1⟩
          replace hrow := own_next hrow hb1; replace r0 := r0.next hb1; replace r1 := r1.next hb1; replace r2 := r2.next hb1; replace hb := bmore hb hb1
          have hs1 := r2.lt
          clear hb1 c0 c1 c2 c3
          go_wp2_with fail
          go_roundw
          case rel => exact ⟨k + 1, by omega, by go_num, by rw [hF.out]; exact hrow, r0, r1, r2, hb⟩
          case measure => simp [intOf]; omega
        · have hB : p k = true := by rw [hpk.out, h1, h2]; rfl
          have hF := Lib.hid (fl_succ_yes hB)
          generalize (List.range k).filter p = f at *
          obtain ⟨A, cap, rfl⟩ := own_form hrow
          rw [h2] at H2
          replace H2 := Lib.hid H2
          go_wp2_with fail
          refine (H1.out _ HX.out hlt).mono ?_
          rintro e w1 ⟨rfl, hb1⟩
          replace hrow := own_next hrow hb1; replace r0 := r0.next hb1; replace r1 := r1.next hb1; replace r2 := r2.next hb1; replace hb := bmore hb hb1
          clear hb1 c0 c1 c2 c3
          obtain ⟨c0, c1, c2, c3⟩ := r1.four
          go_wp2_with fail
          refine (H2.out _ HY.out hlt).mono ?_
          rintro e w2 ⟨rfl, hb1⟩
          replace hrow := own_next hrow hb1; replace r0 := r0.next hb1; replace r1 := r1.next hb1; replace r2 := r2.next hb1; replace hb := bmore hb hb1
          have hs1 := r2.lt
          clear hb1 c0 c1 c2 c3
          go_wp2_with (at_builtin; refine wpList_append_own _ rfl _ _ 25 rfl (w.heap.size + 3) 3 i0 (.int .i64 0) 1 8 Tryd.underlying25 hi hz0 hz1 hz2 rfl (by decide) _ _ _ rfl (hrow.alloc _) ⟨w2.heap.size, 0, none⟩ 1 1 [.int .i64 (k : Int)] rfl rfl (cell_one_new _ _ _) (by simp [Value.oneCell']) (by unfold maxLen; omega) (by omega) (by simp; omega) ?_; intro v' w9 hown' hgrow _; obtain ⟨g', cap', rfl⟩ := ownsRow_succ hown'; have hb9 := appended_below hrow (by omega) hgrow)
          go_roundw
          case rel => exact ⟨k + 1, by omega, by go_num, by rw [hF.out, nv_snoc, List.length_append]; exact hown', r0.below hb9 (by omega), r1.below hb9 (by omega), r2.below hb9 (by omega), hb.trans (hb9.mono (by omega))⟩
          case measure => simp [intOf]; omega
      · have hB : p k = true := by rw [hpk.out, h1]; rfl
        have hF := Lib.hid (fl_succ_yes hB)
        generalize (List.range k).filter p = f at *
        obtain ⟨A, cap, rfl⟩ := own_form hrow
        rw [h1] at H1
        replace H1 := Lib.hid H1
        clear H2
        go_wp2_with fail
        refine (H1.out _ HX.out hlt).mono ?_
        rintro e w1 ⟨rfl, hb1⟩
        replace hrow := own_next hrow hb1; replace r0 := r0.next hb1; replace r1 := r1.next hb1; replace r2 := r2.next hb1; replace hb := bmore hb hb1
        have hs1 := r2.lt
        clear hb1 c0 c1 c2 c3
        go_wp2_with (at_builtin; refine wpList_append_own _ rfl _ _ 25 rfl (w.heap.size + 3) 3 i0 (.int .i64 0) 1 8 Tryd.underlying25 hi hz0 hz1 hz2 rfl (by decide) _ _ _ rfl (hrow.alloc _) ⟨w1.heap.size, 0, none⟩ 1 1 [.int .i64 (k : Int)] rfl rfl (cell_one_new _ _ _) (by simp [Value.oneCell']) (by unfold maxLen; omega) (by omega) (by simp; omega) ?_; intro v' w9 hown' hgrow _; obtain ⟨g', cap', rfl⟩ := ownsRow_succ hown'; have hb9 := appended_below hrow (by omega) hgrow)
        go_roundw
        case rel => exact ⟨k + 1, by omega, by go_num, by rw [hF.out, nv_snoc, List.length_append]; exact hown', r0.below hb9 (by omega), r1.below hb9 (by omega), r2.below hb9 (by omega), hb.trans (hb9.mono (by omega))⟩
        case measure => simp [intOf]; omega
    · obtain rfl : k = 256 := by omega
      have hwd := Lib.hid (wds_ofL (fl_lt p))
      have hz := Lib.hid (info40 HW.out.1)
      have hl4 := Lib.hid (zero_len HW.out)
      generalize (List.range 256).filter p = f at *
      obtain ⟨A, cap, rfl⟩ := own_form hrow
      have hA := nats_nv rfl hrow
      go_wp2_with fail
      refine (make_any A cap f.length f _ hA rfl (by omega)).mono ?_
      rintro e w2 ⟨rfl, hb2⟩
      rw [hwd.out, HE.out]
      replace r2 := r2.next hb2
      replace hb := bmore hb hb2
      go_wp2_with (refine store_law rfl 24 _ _ rfl (w.heap.size + 1 + 1) .u64 Mk.zero (zw Nat.lor [x0, x1, x2, x3] [y0, y1, y2, y3]) rfl rfl 24 r2 hl4.out hz.out ?_; intro w7 hw7)
      exact bodyPost_ret (results_row rfl _ _ (w.heap.size + 1 + 1) .u64 24 _ _ rfl (r2.hidSet hw7) Tryd.underlying24 rfl hz.out) rfl ⟨rfl, below_hidSet hb hw7 (by omega)⟩

set_option maxRecDepth 100000 in
set_option maxHeartbeats 1000000 in
theorem rMinus_any (x0 x1 x2 x3 y0 y1 y2 y3 : Nat) (w : World) (hx : Mk.W4 [x0, x1, x2, x3]) (hy : Mk.W4 [y0, y1, y2, y3]) :
    Calls Tryd.prog 29 #[.agg #[.int .u64 x0, .int .u64 x1, .int .u64 x2, .int .u64 x3], .agg #[.int .u64 y0, .int .u64 y1, .int .u64 y2, .int .u64 y3]] w fun e w' => e = .returned (.agg (vs .u64 (zw andN [x0, x1, x2, x3] [y0, y1, y2, y3]))) ∧ Below w.heap.size w w' := by
  obtain ⟨i0, hi, hz0, hz1, hz2⟩ := info_parts info3
  have HX := Lib.hid hx
  have HY := Lib.hid hy
  have HE := Lib.hid (fl_minus hx hy)
  have HW := Lib.hid (andN_W4 hx hy)
  clear hx hy
  obtain ⟨p, hp⟩ : ∃ p, p = fun c => Mk.hasB [x0, x1, x2, x3] c && !Mk.hasB [y0, y1, y2, y3] c := ⟨_, rfl⟩
  have HP := Lib.hid hp
  rw [← hp] at HE
  clear hp
  have r0 := (((Bk.new w 24 #[.int .u64 x0, .int .u64 x1, .int .u64 x2, .int .u64 x3]).alloc (.cells #[.int .u64 y0, .int .u64 y1, .int .u64 y2, .int .u64 y3] 24)).alloc (.cells #[.int .u64 0, .int .u64 0, .int .u64 0, .int .u64 0] 24))
  have r1 := ((Bk.new (w.alloc (.cells #[.int .u64 x0, .int .u64 x1, .int .u64 x2, .int .u64 x3] 24)) 24 #[.int .u64 y0, .int .u64 y1, .int .u64 y2, .int .u64 y3]).alloc (.cells #[.int .u64 0, .int .u64 0, .int .u64 0, .int .u64 0] 24))
  have r2 := Row.new ((w.alloc (.cells #[.int .u64 x0, .int .u64 x1, .int .u64 x2, .int .u64 x3] 24)).alloc (.cells #[.int .u64 y0, .int .u64 y1, .int .u64 y2, .int .u64 y3] 24)) .u64 24 Mk.zero #[.int .u64 0, .int .u64 0, .int .u64 0, .int .u64 0] rfl
  have hb0 := ((((Below.refl _ w).alloc (Nat.le_refl _) (.cells #[.int .u64 x0, .int .u64 x1, .int .u64 x2, .int .u64 x3] 24)).alloc (by simp) (.cells #[.int .u64 y0, .int .u64 y1, .int .u64 y2, .int .u64 y3] 24)).alloc (by simp; omega) (.cells #[.int .u64 0, .int .u64 0, .int .u64 0, .int .u64 0] 24))
  simp only [size_alloc] at r1 r2
  go_enter Tryd.func29, Tryd.ntmps29
  go_wp2_with fail
  go_loopw [5, 6] (fun o i wr => ∃ (k : Nat), k ≤ 256 ∧ i = .int .i64 k ∧ wr.ownsRow (w.heap.size + 3) 3 1 o ((List.range k).filter p).length (nv ((List.range k).filter p)) ∧ Bk wr w.heap.size 24 #[.int .u64 x0, .int .u64 x1, .int .u64 x2, .int .u64 x3] ∧ Bk wr (w.heap.size + 1) 24 #[.int .u64 y0, .int .u64 y1, .int .u64 y2, .int .u64 y3] ∧ Row .u64 24 wr (w.heap.size + 1 + 1) Mk.zero ∧ Below w.heap.size w wr)
    (fun _ i _ => 256 - (intOf i).toNat)
  case atStart => exact ⟨0, Nat.zero_le _, rfl, World.ownsRow_nil _ _ _ _, r0, r1, r2, hb0⟩
  case round =>
    clear r0 r1 r2 hb0
    obtain ⟨k, hk, rfl, hrow, r0, r1, r2, hb⟩ := hrel
    have hlen := fl_len p k
    have hs0 := r2.lt
    by_cases hlt : k < 256
    · have H1 := rHas_in [x0, x1, x2, x3] k
      have H2 := rHas_in [y0, y1, y2, y3] k
      have hpk : Hid (p k = (Mk.hasB [x0, x1, x2, x3] k && !Mk.hasB [y0, y1, y2, y3] k)) := by show _ = _; rw [HP.out]
      obtain ⟨c0, c1, c2, c3⟩ := r0.four
      rcases h1 : Mk.hasB [x0, x1, x2, x3] k with _ | _
      · have hB : p k = false := by rw [hpk.out, h1]; rfl
        have hF := Lib.hid (fl_succ_no hB)
        generalize (List.range k).filter p = f at *
        obtain ⟨A, cap, rfl⟩ := own_form hrow
        rw [h1] at H1
        replace H1 := Lib.hid H1
        clear H2
        go_wp2_with fail
        refine (H1.out _ HX.out hlt).mono ?_
        rintro e w1 ⟨rfl, hb1⟩
        replace hrow := own_next hrow hb1; replace r0 := r0.next hb1; replace r1 := r1.next hb1; replace r2 := r2.next hb1; replace hb := bmore hb hb1
        have hs1 := r2.lt
        clear hb1 c0 c1 c2 c3
        go_wp2_with fail
        go_roundw
        case rel => exact ⟨k + 1, by omega, by go_num, by rw [hF.out]; exact hrow, r0, r1, r2, hb⟩
        case measure => simp [intOf]; omega
      · rw [h1] at H1
        replace H1 := Lib.hid H1
        rcases h2 : Mk.hasB [y0, y1, y2, y3] k with _ | _
        · have hB : p k = true := by rw [hpk.out, h1, h2]; rfl
          have hF := Lib.hid (fl_succ_yes hB)
          generalize (List.range k).filter p = f at *
          obtain ⟨A, cap, rfl⟩ := own_form hrow
          rw [h2] at H2
          replace H2 := Lib.hid H2
          go_wp2_with fail
          refine (H1.out _ HX.out hlt).mono ?_
          rintro e w1 ⟨rfl, hb1⟩
          replace hrow := own_next hrow hb1; replace r0 := r0.next hb1; replace r1 := r1.next hb1; replace r2 := r2.next hb1; replace hb := bmore hb hb1
          clear hb1 c0 c1 c2 c3
          obtain ⟨c0, c1, c2, c3⟩ := r1.four
          go_wp2_with fail
          refine (H2.out _ HY.out hlt).mono ?_
          rintro e w2 ⟨rfl, hb1⟩
          replace hrow := own_next hrow hb1; replace r0 := r0.next hb1; replace r1 := r1.next hb1; replace r2 := r2.next hb1; replace hb := bmore hb hb1
          have hs1 := r2.lt
          clear hb1 c0 c1 c2 c3
          go_wp2_with (at_builtin; refine wpList_append_own _ rfl _ _ 25 rfl (w.heap.size + 3) 3 i0 (.int .i64 0) 1 8 Tryd.underlying25 hi hz0 hz1 hz2 rfl (by decide) _ _ _ rfl (hrow.alloc _) ⟨w2.heap.size, 0, none⟩ 1 1 [.int .i64 (k : Int)] rfl rfl (cell_one_new _ _ _) (by simp [Value.oneCell']) (by unfold maxLen; omega) (by omega) (by simp; omega) ?_; intro v' w9 hown' hgrow _; obtain ⟨g', cap', rfl⟩ := ownsRow_succ hown'; have hb9 := appended_below hrow (by omega) hgrow)
          go_roundw
          case rel => exact ⟨k + 1, by omega, by go_num, by rw [hF.out, nv_snoc, List.length_append]; exact hown', r0.below hb9 (by omega), r1.below hb9 (by omega), r2.below hb9 (by omega), hb.trans (hb9.mono (by omega))⟩
          case measure => simp [intOf]; omega
        · have hB : p k = false := by rw [hpk.out, h1, h2]; rfl
          have hF := Lib.hid (fl_succ_no hB)
          generalize (List.range k).filter p = f at *
          obtain ⟨A, cap, rfl⟩ := own_form hrow
          rw [h2] at H2
          replace H2 := Lib.hid H2
          go_wp2_with fail
          refine (H1.out _ HX.out hlt).mono ?_
          rintro e w1 ⟨rfl, hb1⟩
          replace hrow := own_next hrow hb1; replace r0 := r0.next hb1; replace r1 := r1.next hb1; replace r2 := r2.next hb1; replace hb := bmore hb hb1
          clear hb1 c0 c1 c2 c3
          obtain ⟨c0, c1, c2, c3⟩ := r1.four
          go_wp2_with fail
          refine (H2.out _ HY.out hlt).mono ?_
          rintro e w2 ⟨rfl, hb1⟩
          replace hrow := own_next hrow hb1; replace r0 := r0.next hb1; replace r1 := r1.next hb1; replace r2 := r2.next hb1; replace hb := bmore hb hb1
          have hs1 := r2.lt
          clear hb1 c0 c1 c2 c3
          go_wp2_with fail
          go_roundw
          case rel => exact ⟨k + 1, by omega, by go_num, by rw [hF.out]; exact hrow, r0, r1, r2, hb⟩
          case measure => simp [intOf]; omega
    · obtain rfl : k = 256 := by omega
      have hwd := Lib.hid (wds_ofL (fl_lt p))
      have hz := Lib.hid (info40 HW.out.1)
      have hl4 := Lib.hid (zero_len HW.out)
      generalize (List.range 256).filter p = f at *
      obtain ⟨A, cap, rfl⟩ := own_form hrow
      have hA := nats_nv rfl hrow
      go_wp2_with fail
      refine (make_any A cap f.length f _ hA rfl (by omega)).mono ?_
      rintro e w2 ⟨rfl, hb2⟩
      rw [hwd.out, HE.out]
      replace r2 := r2.next hb2
      replace hb := bmore hb hb2
      go_wp2_with (refine store_law rfl 24 _ _ rfl (w.heap.size + 1 + 1) .u64 Mk.zero (zw andN [x0, x1, x2, x3] [y0, y1, y2, y3]) rfl rfl 24 r2 hl4.out hz.out ?_; intro w7 hw7)
      exact bodyPost_ret (results_row rfl _ _ (w.heap.size + 1 + 1) .u64 24 _ _ rfl (r2.hidSet hw7) Tryd.underlying24 rfl hz.out) rfl ⟨rfl, below_hidSet hb hw7 (by omega)⟩

end Go.Proofs.YthmlibapjhmdbaaDoor
