/- Parse. -/
import Derived.Test.YthmlibapjhmdbaaDoorW19
import Derived.Deep.RegionWith
namespace Go.Proofs.YthmlibapjhmdbaaDoor
open Go.RowKit Go.Shelf

theorem undrew' {B : Nat} {a w : World} (h : Below B a.drew w) : Below B a w := ⟨h.os, h.tape, h.output, h.size, h.block⟩

set_option maxRecDepth 100000 in
set_option maxHeartbeats 2000000 in
theorem parse_any (s : ByteArray) (w : World) (G : Glob w) (hs : s.size ≤ 2048) :
    Calls Tryd.prog 30 #[.string s] w fun e w' => e = .returned (.tuple #[.agg (vs .u64 (parseOf s).1), .int .i64 ((parseOf s).2 : Nat)]) ∧ Below w.heap.size w w' := by
  have r0 := (Row.new w .u64 27 Mk.zero #[.int .u64 0, .int .u64 0, .int .u64 0, .int .u64 0] rfl).alloc (.cells #[.int .u64 0, .int .u64 0, .int .u64 0, .int .u64 0] 27)
  have r1 : Row .u64 27 ((w.alloc (.cells #[.int .u64 0, .int .u64 0, .int .u64 0, .int .u64 0] 27)).alloc (.cells #[.int .u64 0, .int .u64 0, .int .u64 0, .int .u64 0] 27)) (w.heap.size + 1) Mk.zero := by
    have := Row.new (w.alloc (.cells #[.int .u64 0, .int .u64 0, .int .u64 0, .int .u64 0] 27)) .u64 27 Mk.zero #[.int .u64 0, .int .u64 0, .int .u64 0, .int .u64 0] rfl
    rw [size_alloc] at this
    exact this
  have hb0 := ((Below.refl _ w).alloc (Nat.le_refl _) (.cells #[.int .u64 0, .int .u64 0, .int .u64 0, .int .u64 0] 27)).alloc (by simp) (.cells #[.int .u64 0, .int .u64 0, .int .u64 0, .int .u64 0] 27)
  have G0 := G.next hb0
  have hzz := Lib.hid (info33' Mk.W4.zero)
  go_enter Tryd.func30, Tryd.ntmps30
  go_wp2_with fail
  generalize (w.alloc (.cells #[.int .u64 0, .int .u64 0, .int .u64 0, .int .u64 0] 27)).alloc (.cells #[.int .u64 0, .int .u64 0, .int .u64 0, .int .u64 0] 27) = W1 at *
  go_loopw [5, 6, 7] (fun le re mo wr => ∃ (n L : Nat) (r : ByteArray) (t : Bool) (m : List Nat), le = .int .i64 L ∧ re = .string r ∧ mo = .bool t ∧ r.size ≤ 2048 ∧ L ≤ 257 ∧ r.size < n ∧ Mk.W4 m ∧ (parseOf s = if t then parseGo n r L m else (m, 0)) ∧ Row .u64 27 wr w.heap.size Mk.zero ∧ Row .u64 27 wr (w.heap.size + 1) m ∧ Glob wr ∧ Below w.heap.size w wr)
    (fun _ re mo _ => 2 * strLen re + boolNum mo)
  case atStart =>
    refine ⟨2049, 0, s, _, Mk.zero, rfl, rfl, rfl, hs, by omega, by omega, Mk.W4.zero, ?_, r0, r1, G0, hb0⟩
    unfold parseOf
    cases s.toList.isEmpty <;> rfl
  case round =>
    clear r0 r1 hb0 G0
    obtain ⟨n, L, r, t, m, rfl, rfl, rfl, hr, hL, hn, hm, hP, r0, r1, Gr, hb0⟩ := hrel
    cases t with
    | false =>
      have HP := Lib.hid hP
      have hz := Lib.hid (info33' hm)
      have hlen := Lib.hid (zero_len hm)
      clear hP hm
      go_wp2_with (first | (refine load_law rfl 27 _ rfl (w.heap.size + 1) .u64 m rfl 27 _ r1 Tryd.underlying27 rfl hz.out ?_) | (refine store_law rfl 27 _ _ rfl w.heap.size .u64 Mk.zero m rfl rfl 27 r0 hlen.out hz.out ?_; intro w7 hw7))
      exact bodyPost_ret (results_row_tmp rfl _ _ w.heap.size .u64 27 _ _ rfl (r0.hidSet hw7) Tryd.underlying27 rfl hz.out) rfl ⟨by rw [HP.out]; rfl, below_hidSet hb0 hw7 (by omega)⟩
    | true =>
      obtain ⟨q, rfl⟩ : ∃ q, n = q + 1 := ⟨n - 1, by omega⟩
      have KC := Lib.hid (fun V GV => cut_any r comma V GV hr)
      have sA := cutA_size r comma
      have KE := Lib.hid (fun V GV => ends_any (cutA r comma) V GV (by omega))
      have HP := Lib.hid hP
      have HM := Lib.hid hm
      clear hP hm sA
      go_wp2_with fail
      refine (KC.out _ Gr).mono ?_
      rintro e w1 ⟨rfl, hb1⟩
      replace r0 := r0.next hb1
      replace r1 := r1.next hb1
      replace hb0 := bmore hb0 hb1
      replace Gr := Gr.next hb1
      clear hb1
      go_wp2_with fail
      refine (KE.out _ Gr).mono ?_
      rintro e w2 ⟨rfl, hb2⟩
      replace r0 := r0.next hb2
      replace r1 := r1.next hb2
      replace hb0 := bmore hb0 hb2
      replace Gr := Gr.next hb2
      clear hb2 KC KE
      have HG := Lib.hid (show parseOf s = if (endsOf (cutA r comma)).2.2 = true ∧ L ≤ (endsOf (cutA r comma)).1 then
          if cutT r comma = true then parseGo q (cutB r comma) ((endsOf (cutA r comma)).2.1 + 2) (zw Nat.lor m (spanL (endsOf (cutA r comma)).1 (endsOf (cutA r comma)).2.1))
          else (zw Nat.lor m (spanL (endsOf (cutA r comma)).1 (endsOf (cutA r comma)).2.1), 0)
        else (Mk.zero, 5) by rw [HP.out]; rfl)
      have HO := Lib.hid (fun h : (endsOf (cutA r comma)).2.2 = true => ends_ok h)
      have HB := Lib.hid (fun h : (endsOf (cutA r comma)).2.2 = true => ok_pos h)
      have HL := Lib.hid (fun h : cutT r comma = true => cutB_less h)
      have HN := Lib.hid (fun h : cutT r comma = false => cutB_none h)
      have hBs := cutB_size r comma
      generalize endsOf (cutA r comma) = E at *
      obtain ⟨f, l, o⟩ := E
      generalize cutA r comma = A at *
      generalize cutB r comma = B at *
      generalize cutT r comma = T at *
      clear HP
      simp only at HG HO HB
      cases o with
      | false =>
        have HQ := Lib.hid (show parseOf s = (Mk.zero, 5) by rw [HG.out, if_neg (by simp)])
        go_wp2_with (refine store_law rfl 27 _ _ rfl w.heap.size .u64 Mk.zero Mk.zero rfl rfl 27 r0 rfl hzz.out ?_; intro w7 hw7)
        exact bodyPost_ret (results_row_tmp rfl _ _ w.heap.size .u64 27 _ _ rfl (r0.hidSet hw7) Tryd.underlying27 rfl hzz.out) rfl ⟨by rw [HQ.out]; rfl, below_hidSet hb0 hw7 (by omega)⟩
      | true =>
        by_cases hLf : L ≤ f
        · have hfl := HO.out rfl
          have hr0 := HB.out rfl
          have hd : decide ((f : Int) < (L : Int)) = false := by simp; omega
          have hd2 : decide (f < L) = false := by simp; omega
          have HQ := Lib.hid (show parseOf s = if T = true then parseGo q B (l + 2) (zw Nat.lor m (spanL f l)) else (zw Nat.lor m (spanL f l), 0) by rw [HG.out, if_pos ⟨rfl, hLf⟩])
          have KS := Lib.hid (fun V => span_fl f l V hfl.1 hfl.2)
          have HS := Lib.hid (spanL_W4 (f := f) hfl.2)
          have HZ := Lib.hid (zwlor_W4 HM.out HS.out)
          have KO := Lib.hid (fun V => or_any m (spanL f l) V HM.out HS.out)
          obtain ⟨a0, a1, a2, a3, hma⟩ := Mk.W4.four HM.out
          obtain ⟨s0, s1, s2, s3, hsa⟩ := Mk.W4.four HS.out
          obtain ⟨v0, v1, v2, v3, hva⟩ := Mk.W4.four HZ.out
          rw [hma, hsa] at hva
          have KO2 := Lib.hid (show ∀ V, Calls Tryd.prog 26 #[.agg #[.int .u64 a0, .int .u64 a1, .int .u64 a2, .int .u64 a3], .agg #[.int .u64 s0, .int .u64 s1, .int .u64 s2, .int .u64 s3]] V fun e w' => e = .returned (.agg #[.int .u64 v0, .int .u64 v1, .int .u64 v2, .int .u64 v3]) ∧ Below V.heap.size V w' from fun V => by
            have := KO.out V
            rw [hma, hsa, hva] at this
            exact this)
          have KS2 := Lib.hid (show ∀ V, Calls Tryd.prog 38 #[.int .i64 f, .int .i64 l] V fun e w' => e = .returned (.agg #[.int .u64 s0, .int .u64 s1, .int .u64 s2, .int .u64 s3]) ∧ Below V.heap.size V w' from fun V => by
            have := KS.out V
            rw [hsa] at this
            exact this)
          have HV := Lib.hid (show zw Nat.lor m (spanL f l) = [v0, v1, v2, v3] by rw [hma, hsa, hva])
          rw [hma] at r1
          clear KO KS hma hsa hva HG HO HB hLf
          go_wp2_with fail
          have c0 := r1.cell 0 (by simp)
          have c1 := r1.cell 1 (by simp)
          have c2 := r1.cell 2 (by simp)
          have c3 := r1.cell 3 (by simp)
          have f0 := r1.frozen 0
          have f1 := r1.frozen 1
          have f2 := r1.frozen 2
          have f3 := r1.frozen 3
          simp only [Mk.nth, List.getD_cons_zero, List.getD_cons_succ] at c0 c1 c2 c3
          go_region_with (first
            | (go_at_call 38; refine (KS2.out _).mono ?_; rintro e w3 ⟨rfl, hb3⟩; (first | replace hb3 := undrew' hb3 | skip); replace r0 := r0.next hb3; replace r1 := r1.next hb3; replace hb0 := bmore hb0 hb3; replace Gr := Gr.next hb3; clear hb3 c0 c1 c2 c3 f0 f1 f2 f3; have c0 := r1.cell 0 (by simp); have c1 := r1.cell 1 (by simp); have c2 := r1.cell 2 (by simp); have c3 := r1.cell 3 (by simp); have f0 := r1.frozen 0; have f1 := r1.frozen 1; have f2 := r1.frozen 2; have f3 := r1.frozen 3; simp only [Mk.nth, List.getD_cons_zero, List.getD_cons_succ] at c0 c1 c2 c3)
            | (go_at_call 26; refine (KO2.out _).mono ?_; rintro e w3 ⟨rfl, hb3⟩; (first | replace hb3 := undrew' hb3 | skip); replace r0 := r0.next hb3; replace r1 := r1.next hb3; replace hb0 := bmore hb0 hb3; replace Gr := Gr.next hb3; clear hb3 c0 c1 c2 c3 f0 f1 f2 f3; have c0 := r1.cell 0 (by simp); have c1 := r1.cell 1 (by simp); have c2 := r1.cell 2 (by simp); have c3 := r1.cell 3 (by simp); have f0 := r1.frozen 0; have f1 := r1.frozen 1; have f2 := r1.frozen 2; have f3 := r1.frozen 3; simp only [Mk.nth, List.getD_cons_zero, List.getD_cons_succ] at c0 c1 c2 c3))
          all_goals
            have r19 : Row .u64 27 _ (w.heap.size + 1) [v0, v1, v2, v3] := (((r1.set 0 v0).set 1 v1).set 2 v2).set 3 v3
            have r09 := (((r0.setOther (a := ⟨w.heap.size + 1, 0, none⟩) (.int .u64 (v0 : Nat)) (by simp)).setOther (a := ⟨w.heap.size + 1, 1, none⟩) (.int .u64 (v1 : Nat)) (by simp)).setOther (a := ⟨w.heap.size + 1, 2, none⟩) (.int .u64 (v2 : Nat)) (by simp)).setOther (a := ⟨w.heap.size + 1, 3, none⟩) (.int .u64 (v3 : Nat)) (by simp)
            have hb9 := (((hb0.setCell (p := ⟨w.heap.size + 1, 0, none⟩) (by simp) (.int .u64 (v0 : Nat))).setCell (p := ⟨w.heap.size + 1, 1, none⟩) (by simp) (.int .u64 (v1 : Nat))).setCell (p := ⟨w.heap.size + 1, 2, none⟩) (by simp) (.int .u64 (v2 : Nat))).setCell (p := ⟨w.heap.size + 1, 3, none⟩) (by simp) (.int .u64 (v3 : Nat))
            have G9 := G.next hb9
            clear r0 r1 hb0 Gr c0 c1 c2 c3 f0 f1 f2 f3
            generalize World.setCell (World.setCell (World.setCell (World.setCell _ ⟨w.heap.size + 1, 0, none⟩ _) ⟨w.heap.size + 1, 1, none⟩ _) ⟨w.heap.size + 1, 2, none⟩ _) ⟨w.heap.size + 1, 3, none⟩ _ = w9 at *
            have hBq : B.size < q ∧ 2 * B.size + boolNum (.bool T) < 2 * r.size + 1 := by
              cases T with
              | true => have := HL.out rfl hr0; exact ⟨by omega, by simp only [boolNum]; omega⟩
              | false => have := HN.out rfl; exact ⟨by omega, by simp only [boolNum]; omega⟩
            have HBQ := Lib.hid hBq
            clear hBq
            go_wp2_with fail
            go_roundw
            case rel => exact ⟨q, l + 2, B, T, [v0, v1, v2, v3], by go_num, rfl, rfl, by omega, by omega, HBQ.out.1, by rw [← HV.out]; exact HZ.out, by rw [HQ.out, HV.out], r09, r19, G9, hb9⟩
            case measure => exact HBQ.out.2
        · have hd : (f : Int) < (L : Int) := by omega
          have hd2 : f < L := by omega
          have HQ := Lib.hid (show parseOf s = (Mk.zero, 5) by rw [HG.out, if_neg (by omega)])
          go_wp2_with (refine store_law rfl 27 _ _ rfl w.heap.size .u64 Mk.zero Mk.zero rfl rfl 27 r0 rfl hzz.out ?_; intro w7 hw7)
          exact bodyPost_ret (results_row_tmp rfl _ _ w.heap.size .u64 27 _ _ rfl (r0.hidSet hw7) Tryd.underlying27 rfl hzz.out) rfl ⟨by rw [HQ.out]; rfl, below_hidSet hb0 hw7 (by omega)⟩
end Go.Proofs.YthmlibapjhmdbaaDoor
