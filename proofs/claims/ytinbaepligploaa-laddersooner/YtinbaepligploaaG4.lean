/- LadderSooner, walked. -/
import Derived.Test.YtinbaepligploaaG3
namespace Go.Proofs.Ytinbaepligploaa
open Go.RowKit Go.Shelf

theorem sooner {l wn g k f c cc : Int} (q : mayB l wn g k f c = true) (q' : mayB l wn g k f cc = true) (h1 : 0 ≤ cc) (h2 : 0 ≤ c → cc ≤ c) (j : Nat) (hj : j < 5) : nth5 (rungE l wn g k f cc) j ≤ nth5 (rungE l wn g k f c) j := by
  have p := may_iff.1 q
  have p' := may_iff.1 q'
  have e : endV l f cc ≤ endV l f c := by
    unfold endV
    split <;> split <;> omega
  unfold rungE
  rw [if_pos q, if_pos q']
  unfold rungV
  match j, hj with
  | 0, _ => simp [nth5]
  | 1, _ => simp [nth5]; omega
  | 2, _ => simp [nth5]; omega
  | 3, _ => simp [nth5]; omega
  | 4, _ => simp [nth5]; omega
theorem lower {l wn g k f c : Int} (q : mayB l wn g k f c = true) (h1 : 2 ≤ l) (h2 : wn ≤ l - 1) (j : Nat) (hj : j < 5) : nth5 (rungE (l - 1) wn g k f c) j ≤ nth5 (rungE l wn g k f c) j := by
  have p := may_iff.1 q
  have q' : mayB (l - 1) wn g k f c = true := may_iff.2 (by omega)
  have e : endV (l - 1) f c ≤ endV l f c := by
    unfold endV
    split <;> omega
  unfold rungE
  rw [if_pos q, if_pos q']
  unfold rungV
  match j, hj with
  | 0, _ => simp [nth5]
  | 1, _ => simp [nth5]; omega
  | 2, _ => simp [nth5]; omega
  | 3, _ => simp [nth5]; omega
  | 4, _ => simp [nth5]; omega
theorem rung0 {l wn g k f c : Int} (q : mayB l wn g k f c = true) : (rungE l wn g k f c).1 = f := by unfold rungE; rw [if_pos q]; rfl
theorem rung_no {l wn g k f c : Int} (q : mayB l wn g k f c = false) : (rungE l wn g k f c).1 = -1 := by unfold rungE; rw [q]; rfl

set_option maxRecDepth 100000 in
set_option maxHeartbeats 4000000 in
theorem sooner_any (l wn g k f c cc : Int) (w : World) : Calls Try.prog 12 #[.agg #[.int .i64 l, .int .i64 wn, .int .i64 g, .int .i64 k], .agg #[.int .i64 f, .int .i64 c], .int .i64 cc] w fun x w' => x = .returned (.bool true) ∧ Below w.heap.size w w' := by
  have tw := Tw.new w l wn g k f c
  go_enter Try.func12, Try.ntmps12
  go_wp2_with fail
  refine (own_any _ _ _ _ _ _ _).mono ?_
  rintro x w1 ⟨rfl, hb⟩
  have st := (tw.next hb).more
  have hsw := (bmore tw.low hb).size
  clear tw hb
  obtain ⟨-, -, ⟨x0, x1, x2, x3⟩, y0, y1⟩ := st.cells
  have K1 := Lib.hid (rungs_any l wn g k f c)
  have K2 := Lib.hid (rungs_any l wn g k f cc)
  have HA := Lib.hid (rung0 (l := l) (wn := wn) (g := g) (k := k) (f := f) (c := c))
  have HB := Lib.hid (rung_no (l := l) (wn := wn) (g := g) (k := k) (f := f) (c := c))
  have HA' := Lib.hid (rung0 (l := l) (wn := wn) (g := g) (k := k) (f := f) (c := cc))
  have HB' := Lib.hid (rung_no (l := l) (wn := wn) (g := g) (k := k) (f := f) (c := cc))
  have HS := Lib.hid (sooner (l := l) (wn := wn) (g := g) (k := k) (f := f) (c := c) (cc := cc))
  have HL := Lib.hid (lower (l := l) (wn := wn) (g := g) (k := k) (f := f) (c := c))
  generalize rungE l wn g k f c = ra at *
  generalize rungE l wn g k f cc = rb at *
  obtain ⟨p0, p1, p2, p3, p4⟩ := ra
  obtain ⟨s0, s1, s2, s3, s4⟩ := rb
  have lb := below_alloc ((w1.alloc (.cells #[.int .i64 l, .int .i64 wn, .int .i64 g, .int .i64 k] 53)).alloc (.cells #[.int .i64 f, .int .i64 c] 54)) (.cells #[.int .i64 f, .int .i64 cc] 54)
  have kz := Bk.new ((w1.alloc (.cells #[.int .i64 l, .int .i64 wn, .int .i64 g, .int .i64 k] 53)).alloc (.cells #[.int .i64 f, .int .i64 c] 54)) 54 #[.int .i64 f, .int .i64 cc]
  rw [size_alloc, size_alloc] at kz
  replace st := st.next lb
  clear lb
  obtain ⟨-, -, ⟨x0', x1', x2', x3'⟩, y0', y1'⟩ := st.cells
  go_wp2_with fail
  refine (K1.out _).mono ?_
  rintro x w3 ⟨rfl, hb⟩
  have lb := below_alloc w3 (.cells #[.int .i64 p0, .int .i64 p1, .int .i64 p2, .int .i64 p3, .int .i64 p4] 57)
  have ka := Bk.new w3 57 #[.int .i64 p0, .int .i64 p1, .int .i64 p2, .int .i64 p3, .int .i64 p4]
  have hsa := hb.size
  simp only [size_alloc] at hsa
  replace st := (st.next hb).next lb
  replace kz := (kz.next hb).next lb
  clear lb hb K1 x0 x1 x2 x3 y0 y1 x0' x1' x2' x3' y0' y1'
  obtain ⟨-, -, ⟨x0, x1, x2, x3⟩, y0, y1⟩ := st.cells
  have z0 := kz.cell 0 _ rfl
  have z1 := kz.cell 1 _ rfl
  go_wp2_with fail
  refine (K2.out _).mono ?_
  rintro x w4 ⟨rfl, hb⟩
  have lb := below_alloc w4 (.cells #[.int .i64 s0, .int .i64 s1, .int .i64 s2, .int .i64 s3, .int .i64 s4] 57)
  have kb := Bk.new w4 57 #[.int .i64 s0, .int .i64 s1, .int .i64 s2, .int .i64 s3, .int .i64 s4]
  replace ka := (ka.next hb).next lb
  replace st := (st.next hb).next lb
  clear lb hb K2 x0 x1 x2 x3 y0 y1 z0 z1 kz
  obtain ⟨-, -, ⟨x0, x1, x2, x3⟩, y0, y1⟩ := st.cells
  have qa0 := ka.cell 0 _ rfl
  have qb0 := kb.cell 0 _ rfl
  have HNE := Lib.hid (show w3.heap.size ≠ w1.heap.size by omega)
  clear hsa
  cases q : mayB l wn g k f c
  · obtain rfl : p0 = -1 := HB.out q
    clear q
    go_wp2_with fail
    refine (live_any _).mono ?_
    rintro x w9 ⟨rfl, hb⟩
    go_wp2_with fail
    go_ret
    exact ⟨rfl, bmore st.low hb⟩
  cases q' : mayB l wn g k f cc
  · obtain rfl : p0 = f := HA.out q
    obtain rfl : s0 = -1 := HB'.out q'
    have hf := (may_iff.1 q).2.2.2.2.1.1
    clear q q'
    go_wp2_with fail
    refine (live_any _).mono ?_
    rintro x w9 ⟨rfl, hb⟩
    go_wp2_with fail
    go_ret
    exact ⟨rfl, bmore st.low hb⟩
  obtain rfl : p0 = f := HA.out q
  obtain rfl : s0 = p0 := HA'.out q'
  obtain ⟨⟨h1, h2⟩, ⟨h3, h4⟩, -, -, ⟨h9, h10⟩, -⟩ := may_iff.1 q
  by_cases g1 : cc < 0
  · clear q q'
    go_wp2_with fail
    refine (live_any _).mono ?_
    rintro x w9 ⟨rfl, hb⟩
    go_wp2_with fail
    go_ret
    exact ⟨rfl, bmore st.low hb⟩
  by_cases g2 : 0 ≤ c
  · by_cases g3 : c < cc
    · clear q q'
      go_wp2_with fail
      refine (live_any _).mono ?_
      rintro x w9 ⟨rfl, hb⟩
      go_wp2_with fail
      go_ret
      exact ⟨rfl, bmore st.low hb⟩
    have HS' := Lib.hid (HS.out q q' (by omega) (by omega))
    have HL' := Lib.hid (HL.out q)
    clear HS HL HA HB HA' HB' q q'
    go_wp2_with fail
    clear x0 x1 x2 x3 y0 y1 qa0 qb0
    generalize w4.alloc (.cells #[.int .i64 s0, .int .i64 s1, .int .i64 s2, .int .i64 s3, .int .i64 s4] 57) = W at *
    go_loopw [12] (fun i wr => ∃ j : Nat, j ≤ 5 ∧ i = .int .i64 j ∧ Below W.heap.size W wr) (fun i _ => 5 - (intOf i).toNat)
    case atStart => exact ⟨0, Nat.zero_le _, rfl, Below.refl _ _⟩
    case round =>
      obtain ⟨j, hj, rfl, hb⟩ := hrel
      by_cases hlt : j < 5
      · have qa := (ka.next hb).nth5 (r := (s0, p1, p2, p3, p4)) hlt
        have qb := (kb.next hb).nth5 (r := (s0, s1, s2, s3, s4)) hlt
        have hm := HS'.out j hlt
        generalize nth5 (s0, p1, p2, p3, p4) j = za at *
        generalize nth5 (s0, s1, s2, s3, s4) j = zb at *
        have hm2 : decide (za < zb) = false := by simp; omega
        go_wp2_with fail
        go_quiet (fail)
        go_wp2_with fail
        go_roundw
        case rel => exact ⟨j + 1, by omega, by go_num, below_drewN' hb _⟩
        case measure => simp [intOf]; omega
      · obtain rfl : j = 5 := by omega
        replace st := st.next hb
        replace ka := ka.next hb
        clear kb hb HS'
        obtain ⟨-, -, ⟨x0, x1, x2, x3⟩, y0, y1⟩ := st.cells
        by_cases g4 : l < 2
        · go_wp2_with fail
          refine (live_any _).mono ?_
          rintro x w9 ⟨rfl, hb⟩
          go_wp2_with fail
          go_ret
          exact ⟨rfl, bmore st.low hb⟩
        by_cases g5 : l - 1 < wn
        · go_wp2_with fail
          refine (live_any _).mono ?_
          rintro x w9 ⟨rfl, hb⟩
          go_wp2_with fail
          go_ret
          exact ⟨rfl, bmore st.low hb⟩
        have HM := Lib.hid (HL'.out (by omega) (by omega))
        have K3 := Lib.hid (rungs_any (l - 1) wn g k s0 c)
        clear HL'
        generalize rungE (l - 1) wn g k s0 c = rc at *
        obtain ⟨c0, c1, c2, c3, c4⟩ := rc
        have fx := st.bx.frozen 0
        have bx := st.bx.set 0 (.int .i64 (l - 1))
        have by2 : Bk (wr.setCell ⟨w1.heap.size, 0, none⟩ (.int .i64 (l - 1))) (w1.heap.size + 1) 54 #[.int .i64 s0, .int .i64 c] := (heap_setCell_other wr ⟨w1.heap.size, 0, none⟩ (w1.heap.size + 1) (.int .i64 (l - 1)) (by simp)).trans st.by_
        have ka2 : Bk (wr.setCell ⟨w1.heap.size, 0, none⟩ (.int .i64 (l - 1))) w3.heap.size 57 #[.int .i64 s0, .int .i64 p1, .int .i64 p2, .int .i64 p3, .int .i64 p4] := (heap_setCell_other wr ⟨w1.heap.size, 0, none⟩ w3.heap.size (.int .i64 (l - 1)) HNE.out).trans ka
        have low := st.low.setCell (p := ⟨w1.heap.size, 0, none⟩) hsw (.int .i64 (l - 1))
        have u0 := bx.cell 0 _ rfl
        have u1 := bx.cell 1 _ rfl
        have u2 := bx.cell 2 _ rfl
        have u3 := bx.cell 3 _ rfl
        have v0 := by2.cell 0 _ rfl
        have v1 := by2.cell 1 _ rfl
        clear st ka
        go_wp2_with fail
        refine (K3.out _).mono ?_
        rintro x w6 ⟨rfl, hb⟩
        have lb := below_alloc w6 (.cells #[.int .i64 c0, .int .i64 c1, .int .i64 c2, .int .i64 c3, .int .i64 c4] 57)
        have kc := Bk.new w6 57 #[.int .i64 c0, .int .i64 c1, .int .i64 c2, .int .i64 c3, .int .i64 c4]
        replace ka2 := (ka2.next hb).next lb
        replace low := bmore (bmore low hb) lb
        clear lb hb K3 u0 u1 u2 u3 v0 v1 bx by2 x0 x1 x2 x3 y0 y1 fx
        go_wp2_with fail
        generalize w6.alloc (.cells #[.int .i64 c0, .int .i64 c1, .int .i64 c2, .int .i64 c3, .int .i64 c4] 57) = W2 at *
        go_loopw [14] (fun i wr => ∃ j : Nat, j ≤ 5 ∧ i = .int .i64 j ∧ Below W2.heap.size W2 wr) (fun i _ => 5 - (intOf i).toNat)
        case atStart => exact ⟨0, Nat.zero_le _, rfl, Below.refl _ _⟩
        case round =>
          obtain ⟨j, hj, rfl, hb⟩ := hrel
          by_cases hlt : j < 5
          · have qa := (ka2.next hb).nth5 (r := (s0, p1, p2, p3, p4)) hlt
            have qb := (kc.next hb).nth5 (r := (c0, c1, c2, c3, c4)) hlt
            have hm := HM.out j hlt
            generalize nth5 (s0, p1, p2, p3, p4) j = za at *
            generalize nth5 (c0, c1, c2, c3, c4) j = zb at *
            have hm2 : decide (za < zb) = false := by simp; omega
            go_wp2_with fail
            go_quiet (fail)
            go_wp2_with fail
            go_roundw
            case rel => exact ⟨j + 1, by omega, by go_num, below_drewN' hb _⟩
            case measure => simp [intOf]; omega
          · obtain rfl : j = 5 := by omega
            go_wp2_with fail
            refine (live_any _).mono ?_
            rintro x w9 ⟨rfl, hb9⟩
            go_wp2_with fail
            go_ret
            exact ⟨rfl, bmore (bmore low hb) hb9⟩
  · have HS' := Lib.hid (HS.out q q' (by omega) (by omega))
    have HL' := Lib.hid (HL.out q)
    clear HS HL HA HB HA' HB' q q'
    go_wp2_with fail
    clear x0 x1 x2 x3 y0 y1 qa0 qb0
    generalize w4.alloc (.cells #[.int .i64 s0, .int .i64 s1, .int .i64 s2, .int .i64 s3, .int .i64 s4] 57) = W at *
    go_loopw [12] (fun i wr => ∃ j : Nat, j ≤ 5 ∧ i = .int .i64 j ∧ Below W.heap.size W wr) (fun i _ => 5 - (intOf i).toNat)
    case atStart => exact ⟨0, Nat.zero_le _, rfl, Below.refl _ _⟩
    case round =>
      obtain ⟨j, hj, rfl, hb⟩ := hrel
      by_cases hlt : j < 5
      · have qa := (ka.next hb).nth5 (r := (s0, p1, p2, p3, p4)) hlt
        have qb := (kb.next hb).nth5 (r := (s0, s1, s2, s3, s4)) hlt
        have hm := HS'.out j hlt
        generalize nth5 (s0, p1, p2, p3, p4) j = za at *
        generalize nth5 (s0, s1, s2, s3, s4) j = zb at *
        have hm2 : decide (za < zb) = false := by simp; omega
        go_wp2_with fail
        go_quiet (fail)
        go_wp2_with fail
        go_roundw
        case rel => exact ⟨j + 1, by omega, by go_num, below_drewN' hb _⟩
        case measure => simp [intOf]; omega
      · obtain rfl : j = 5 := by omega
        replace st := st.next hb
        replace ka := ka.next hb
        clear kb hb HS'
        obtain ⟨-, -, ⟨x0, x1, x2, x3⟩, y0, y1⟩ := st.cells
        by_cases g4 : l < 2
        · go_wp2_with fail
          refine (live_any _).mono ?_
          rintro x w9 ⟨rfl, hb⟩
          go_wp2_with fail
          go_ret
          exact ⟨rfl, bmore st.low hb⟩
        by_cases g5 : l - 1 < wn
        · go_wp2_with fail
          refine (live_any _).mono ?_
          rintro x w9 ⟨rfl, hb⟩
          go_wp2_with fail
          go_ret
          exact ⟨rfl, bmore st.low hb⟩
        have HM := Lib.hid (HL'.out (by omega) (by omega))
        have K3 := Lib.hid (rungs_any (l - 1) wn g k s0 c)
        clear HL'
        generalize rungE (l - 1) wn g k s0 c = rc at *
        obtain ⟨c0, c1, c2, c3, c4⟩ := rc
        have fx := st.bx.frozen 0
        have bx := st.bx.set 0 (.int .i64 (l - 1))
        have by2 : Bk (wr.setCell ⟨w1.heap.size, 0, none⟩ (.int .i64 (l - 1))) (w1.heap.size + 1) 54 #[.int .i64 s0, .int .i64 c] := (heap_setCell_other wr ⟨w1.heap.size, 0, none⟩ (w1.heap.size + 1) (.int .i64 (l - 1)) (by simp)).trans st.by_
        have ka2 : Bk (wr.setCell ⟨w1.heap.size, 0, none⟩ (.int .i64 (l - 1))) w3.heap.size 57 #[.int .i64 s0, .int .i64 p1, .int .i64 p2, .int .i64 p3, .int .i64 p4] := (heap_setCell_other wr ⟨w1.heap.size, 0, none⟩ w3.heap.size (.int .i64 (l - 1)) HNE.out).trans ka
        have low := st.low.setCell (p := ⟨w1.heap.size, 0, none⟩) hsw (.int .i64 (l - 1))
        have u0 := bx.cell 0 _ rfl
        have u1 := bx.cell 1 _ rfl
        have u2 := bx.cell 2 _ rfl
        have u3 := bx.cell 3 _ rfl
        have v0 := by2.cell 0 _ rfl
        have v1 := by2.cell 1 _ rfl
        clear st ka
        go_wp2_with fail
        refine (K3.out _).mono ?_
        rintro x w6 ⟨rfl, hb⟩
        have lb := below_alloc w6 (.cells #[.int .i64 c0, .int .i64 c1, .int .i64 c2, .int .i64 c3, .int .i64 c4] 57)
        have kc := Bk.new w6 57 #[.int .i64 c0, .int .i64 c1, .int .i64 c2, .int .i64 c3, .int .i64 c4]
        replace ka2 := (ka2.next hb).next lb
        replace low := bmore (bmore low hb) lb
        clear lb hb K3 u0 u1 u2 u3 v0 v1 bx by2 x0 x1 x2 x3 y0 y1 fx
        go_wp2_with fail
        generalize w6.alloc (.cells #[.int .i64 c0, .int .i64 c1, .int .i64 c2, .int .i64 c3, .int .i64 c4] 57) = W2 at *
        go_loopw [14] (fun i wr => ∃ j : Nat, j ≤ 5 ∧ i = .int .i64 j ∧ Below W2.heap.size W2 wr) (fun i _ => 5 - (intOf i).toNat)
        case atStart => exact ⟨0, Nat.zero_le _, rfl, Below.refl _ _⟩
        case round =>
          obtain ⟨j, hj, rfl, hb⟩ := hrel
          by_cases hlt : j < 5
          · have qa := (ka2.next hb).nth5 (r := (s0, p1, p2, p3, p4)) hlt
            have qb := (kc.next hb).nth5 (r := (c0, c1, c2, c3, c4)) hlt
            have hm := HM.out j hlt
            generalize nth5 (s0, p1, p2, p3, p4) j = za at *
            generalize nth5 (c0, c1, c2, c3, c4) j = zb at *
            have hm2 : decide (za < zb) = false := by simp; omega
            go_wp2_with fail
            go_quiet (fail)
            go_wp2_with fail
            go_roundw
            case rel => exact ⟨j + 1, by omega, by go_num, below_drewN' hb _⟩
            case measure => simp [intOf]; omega
          · obtain rfl : j = 5 := by omega
            go_wp2_with fail
            refine (live_any _).mono ?_
            rintro x w9 ⟨rfl, hb9⟩
            go_wp2_with fail
            go_ret
            exact ⟨rfl, bmore (bmore low hb) hb9⟩
end Go.Proofs.Ytinbaepligploaa
