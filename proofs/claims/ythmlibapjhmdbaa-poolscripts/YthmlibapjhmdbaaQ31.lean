/- The document's pool: Free; the document's Minus. -/
import Derived.Test.YthmlibapjhmdbaaQ30
namespace Go.Proofs.Ythmlibapjhmdbaa
open Go.RowKit Go.Shelf Go.Maps

set_option maxRecDepth 100000 in
set_option maxHeartbeats 2000000 in
theorem rfree_any {w : World} {r s q na nb : Nat} {va vb : Value} {Ow Dn : List Int} (h : RPool w r s q va vb na nb Ow Dn) (hm : na ≤ 256) :
    Calls Try.prog 14 #[.pointer (some ⟨r, 0, none⟩)] w fun e w' => e = .returned (.agg (vs .u64 (Mk.ofL (hv Ow (-1) na)))) ∧ Below w.heap.size w w' := by
  have hba := (Below.refl _ w).alloc (Nat.le_refl _) (.cells (vs .u64 Mk.zero) 35)
  have KV := Lib.hid (having_any (h.next hba) hm (-1))
  have r0 := Row.new w .u64 35 Mk.zero _ rfl
  have hw4 := Lib.hid (Mk.ofL_W4 (hv_lt (Ow := Ow) (n := -1) hm))
  clear h
  obtain ⟨m, hme⟩ : ∃ m, Mk.ofL (hv Ow (-1) na) = m := ⟨_, rfl⟩
  rw [hme] at KV hw4 ⊢
  clear hme
  have hlen := Lib.hid (zero_len hw4.out)
  have hz' := Lib.hid (info40 hw4.out.1)
  go_enter Try.func14, Try.ntmps14
  go_wp2_with fail
  refine KV.out.mono ?_
  rintro _ w5 ⟨rfl, hb5⟩
  replace r0 := r0.next hb5
  have hb := bmore hba hb5
  have hl1 := r0.lt
  clear hb5 KV hba
  go_wp2_with (refine store_law rfl 35 _ _ rfl w.heap.size .u64 Mk.zero m rfl rfl 35 r0 hlen.out hz'.out ?_; intro w7 hw7)
  exact bodyPost_ret (results_row rfl _ _ w.heap.size .u64 35 _ _ rfl (r0.hidSet hw7) Try.underlying35 rfl hz'.out) rfl ⟨rfl, below_hidSet hb hw7 (by omega)⟩
theorem Bk.four {w : World} {g : Nat} {t : TypeId} {a b c d : Value} (h : Bk w g t #[a, b, c, d]) : w.cell? ⟨g, 0, none⟩ = some a ∧ w.cell? ⟨g, 1, none⟩ = some b ∧ w.cell? ⟨g, 2, none⟩ = some c ∧ w.cell? ⟨g, 3, none⟩ = some d :=
  ⟨h.cell 0 _ rfl, h.cell 1 _ rfl, h.cell 2 _ rfl, h.cell 3 _ rfl⟩
theorem fl_succ_yes {p : Nat → Bool} {k : Nat} (h : p k = true) : (List.range (k + 1)).filter p = (List.range k).filter p ++ [k] := by
  rw [List.range_succ, List.filter_append]; simp [h]
theorem fl_succ_no {p : Nat → Bool} {k : Nat} (h : p k = false) : (List.range (k + 1)).filter p = (List.range k).filter p := by
  rw [List.range_succ, List.filter_append]; simp [h]
theorem fl_len (p : Nat → Bool) (k : Nat) : ((List.range k).filter p).length ≤ k := by
  have := List.length_filter_le p (List.range k)
  rwa [List.length_range] at this
theorem fl_lt (p : Nat → Bool) : ∀ x ∈ (List.range 256).filter p, x < 256 := fun x hx => by simpa using (List.mem_filter.1 hx).1
theorem fl_has (p : Nat → Bool) {d : Nat} (hd : d < 256) : Mk.hasB (Mk.ofL ((List.range 256).filter p)) d = p d := by
  rw [Mk.has_ofL (fl_lt p), Bool.eq_iff_iff]
  simp [hd]
theorem fl_minus {a b : List Nat} (ha : Mk.W4 a) (hb : Mk.W4 b) : Mk.ofL ((List.range 256).filter fun c => Mk.hasB a c && !Mk.hasB b c) = zw andN a b :=
  Mk.ext (Mk.ofL_W4 (fl_lt _)) (andN_W4 ha hb) fun d hd => by rw [fl_has _ hd, has_andN ha hb hd]

set_option maxRecDepth 100000 in
set_option maxHeartbeats 1000000 in
theorem rMinus_any (x0 x1 x2 x3 y0 y1 y2 y3 : Nat) (w : World) (hx : Mk.W4 [x0, x1, x2, x3]) (hy : Mk.W4 [y0, y1, y2, y3]) :
    Calls Try.prog 53 #[.agg #[.int .u64 x0, .int .u64 x1, .int .u64 x2, .int .u64 x3], .agg #[.int .u64 y0, .int .u64 y1, .int .u64 y2, .int .u64 y3]] w fun e w' => e = .returned (.agg (vs .u64 (zw andN [x0, x1, x2, x3] [y0, y1, y2, y3]))) ∧ Below w.heap.size w w' := by
  obtain ⟨i0, hi, hz0, hz1, hz2⟩ := info_parts info3
  have HX := Lib.hid hx
  have HY := Lib.hid hy
  have HE := Lib.hid (fl_minus hx hy)
  have HW := Lib.hid (andN_W4 hx hy)
  clear hx hy
  obtain ⟨p, hp⟩ : ∃ p, p = fun c => Mk.hasB [x0, x1, x2, x3] c && !Mk.hasB [y0, y1, y2, y3] c := ⟨_, rfl⟩
  have HP := Lib.hid hp
  rw [← hp] at HE
  clear hp
  have r0 := (((Bk.new w 35 #[.int .u64 x0, .int .u64 x1, .int .u64 x2, .int .u64 x3]).alloc (.cells #[.int .u64 y0, .int .u64 y1, .int .u64 y2, .int .u64 y3] 35)).alloc (.cells #[.int .u64 0, .int .u64 0, .int .u64 0, .int .u64 0] 35))
  have r1 := ((Bk.new (w.alloc (.cells #[.int .u64 x0, .int .u64 x1, .int .u64 x2, .int .u64 x3] 35)) 35 #[.int .u64 y0, .int .u64 y1, .int .u64 y2, .int .u64 y3]).alloc (.cells #[.int .u64 0, .int .u64 0, .int .u64 0, .int .u64 0] 35))
  have r2 := Row.new ((w.alloc (.cells #[.int .u64 x0, .int .u64 x1, .int .u64 x2, .int .u64 x3] 35)).alloc (.cells #[.int .u64 y0, .int .u64 y1, .int .u64 y2, .int .u64 y3] 35)) .u64 35 Mk.zero #[.int .u64 0, .int .u64 0, .int .u64 0, .int .u64 0] rfl
  have hb0 := ((((Below.refl _ w).alloc (Nat.le_refl _) (.cells #[.int .u64 x0, .int .u64 x1, .int .u64 x2, .int .u64 x3] 35)).alloc (by simp) (.cells #[.int .u64 y0, .int .u64 y1, .int .u64 y2, .int .u64 y3] 35)).alloc (by simp; omega) (.cells #[.int .u64 0, .int .u64 0, .int .u64 0, .int .u64 0] 35))
  simp only [size_alloc] at r1 r2
  go_enter Try.func53, Try.ntmps53
  go_wp2_with fail
  go_loopw [5, 6] (fun o i wr => ∃ (k : Nat), k ≤ 256 ∧ i = .int .i64 k ∧ wr.ownsRow (w.heap.size + 3) 3 1 o ((List.range k).filter p).length (nv ((List.range k).filter p)) ∧ Bk wr w.heap.size 35 #[.int .u64 x0, .int .u64 x1, .int .u64 x2, .int .u64 x3] ∧ Bk wr (w.heap.size + 1) 35 #[.int .u64 y0, .int .u64 y1, .int .u64 y2, .int .u64 y3] ∧ Row .u64 35 wr (w.heap.size + 1 + 1) Mk.zero ∧ Below w.heap.size w wr)
    (fun _ i _ => 256 - (intOf i).toNat)
  case atStart => exact ⟨0, Nat.zero_le _, rfl, World.ownsRow_nil _ _ _ _, r0, r1, r2, hb0⟩
  case round =>
    clear r0 r1 r2 hb0
    obtain ⟨k, hk, rfl, hrow, r0, r1, r2, hb⟩ := hrel
    have hlen := fl_len p k
    have hs0 := r2.lt
    by_cases hlt : k < 256
    · have H1 := rHas_in [x0, x1, x2, x3] k
      have H2 := rHas_in [y0, y1, y2, y3] k
      have hpk : Hid (p k = (Mk.hasB [x0, x1, x2, x3] k && !Mk.hasB [y0, y1, y2, y3] k)) := by show _ = _; rw [HP.out]
      obtain ⟨c0, c1, c2, c3⟩ := r0.four
      rcases h1 : Mk.hasB [x0, x1, x2, x3] k with _ | _
      · have hB : p k = false := by rw [hpk.out, h1]; rfl
        have hF := Lib.hid (fl_succ_no hB)
        generalize (List.range k).filter p = f at *
        obtain ⟨A, cap, rfl⟩ := own_form hrow
        rw [h1] at H1
        replace H1 := Lib.hid H1
        clear H2
        go_wp2_with fail
        refine (H1.out _ HX.out hlt).mono ?_
        rintro e w1 ⟨rfl, hb1⟩
        replace hrow := own_next hrow hb1; replace r0 := r0.next hb1; replace r1 := r1.next hb1; replace r2 := r2.next hb1; replace hb := bmore hb hb1
        have hs1 := r2.lt
        clear hb1 c0 c1 c2 c3
        go_wp2_with fail
        go_roundw
        case rel => exact ⟨k + 1, by omega, by go_num, by rw [hF.out]; exact hrow, r0, r1, r2, hb⟩
        case measure => simp [intOf]; omega
      · rw [h1] at H1
        replace H1 := Lib.hid H1
        rcases h2 : Mk.hasB [y0, y1, y2, y3] k with _ | _
        · have hB : p k = true := by rw [hpk.out, h1, h2]; rfl
          have hF := Lib.hid (fl_succ_yes hB)
          generalize (List.range k).filter p = f at *
          obtain ⟨A, cap, rfl⟩ := own_form hrow
          rw [h2] at H2
          replace H2 := Lib.hid H2
          go_wp2_with fail
          refine (H1.out _ HX.out hlt).mono ?_
          rintro e w1 ⟨rfl, hb1⟩
          replace hrow := own_next hrow hb1; replace r0 := r0.next hb1; replace r1 := r1.next hb1; replace r2 := r2.next hb1; replace hb := bmore hb hb1
          clear hb1 c0 c1 c2 c3
          obtain ⟨c0, c1, c2, c3⟩ := r1.four
          go_wp2_with fail
          refine (H2.out _ HY.out hlt).mono ?_
          rintro e w2 ⟨rfl, hb1⟩
          replace hrow := own_next hrow hb1; replace r0 := r0.next hb1; replace r1 := r1.next hb1; replace r2 := r2.next hb1; replace hb := bmore hb hb1
          have hs1 := r2.lt
          clear hb1 c0 c1 c2 c3
          go_wp2_with (at_builtin; refine wpList_append_own _ rfl _ _ 44 rfl (w.heap.size + 3) 3 i0 (.int .i64 0) 1 8 Try.underlying44 hi hz0 hz1 hz2 rfl (by decide) _ _ _ rfl (hrow.alloc _) ⟨w2.heap.size, 0, none⟩ 1 1 [.int .i64 (k : Int)] rfl rfl (cell_one_new _ _ _) (by simp [Value.oneCell']) (by unfold maxLen; omega) (by omega) (by simp; omega) ?_; intro v' w9 hown' hgrow _; obtain ⟨g', cap', rfl⟩ := ownsRow_succ hown'; have hb9 := appended_below hrow (by omega) hgrow)
          go_roundw
          case rel => exact ⟨k + 1, by omega, by go_num, by rw [hF.out, nv_snoc, List.length_append]; exact hown', r0.below hb9 (by omega), r1.below hb9 (by omega), r2.below hb9 (by omega), hb.trans (hb9.mono (by omega))⟩
          case measure => simp [intOf]; omega
        · have hB : p k = false := by rw [hpk.out, h1, h2]; rfl
          have hF := Lib.hid (fl_succ_no hB)
          generalize (List.range k).filter p = f at *
          obtain ⟨A, cap, rfl⟩ := own_form hrow
          rw [h2] at H2
          replace H2 := Lib.hid H2
          go_wp2_with fail
          refine (H1.out _ HX.out hlt).mono ?_
          rintro e w1 ⟨rfl, hb1⟩
          replace hrow := own_next hrow hb1; replace r0 := r0.next hb1; replace r1 := r1.next hb1; replace r2 := r2.next hb1; replace hb := bmore hb hb1
          clear hb1 c0 c1 c2 c3
          obtain ⟨c0, c1, c2, c3⟩ := r1.four
          go_wp2_with fail
          refine (H2.out _ HY.out hlt).mono ?_
          rintro e w2 ⟨rfl, hb1⟩
          replace hrow := own_next hrow hb1; replace r0 := r0.next hb1; replace r1 := r1.next hb1; replace r2 := r2.next hb1; replace hb := bmore hb hb1
          have hs1 := r2.lt
          clear hb1 c0 c1 c2 c3
          go_wp2_with fail
          go_roundw
          case rel => exact ⟨k + 1, by omega, by go_num, by rw [hF.out]; exact hrow, r0, r1, r2, hb⟩
          case measure => simp [intOf]; omega
    · obtain rfl : k = 256 := by omega
      have hwd := Lib.hid (wds_ofL (fl_lt p))
      have hz := Lib.hid (info40 HW.out.1)
      have hl4 := Lib.hid (zero_len HW.out)
      generalize (List.range 256).filter p = f at *
      obtain ⟨A, cap, rfl⟩ := own_form hrow
      have hA := nats_nv rfl hrow
      go_wp2_with fail
      refine (make_any A cap f.length f _ hA rfl (by omega)).mono ?_
      rintro e w2 ⟨rfl, hb2⟩
      rw [hwd.out, HE.out]
      replace r2 := r2.next hb2
      replace hb := bmore hb hb2
      go_wp2_with (refine store_law rfl 35 _ _ rfl (w.heap.size + 1 + 1) .u64 Mk.zero (zw andN [x0, x1, x2, x3] [y0, y1, y2, y3]) rfl rfl 35 r2 hl4.out hz.out ?_; intro w7 hw7)
      exact bodyPost_ret (results_row rfl _ _ (w.heap.size + 1 + 1) .u64 35 _ _ rfl (r2.hidSet hw7) Try.underlying35 rfl hz.out) rfl ⟨rfl, below_hidSet hb hw7 (by omega)⟩

end Go.Proofs.Ythmlibapjhmdbaa
