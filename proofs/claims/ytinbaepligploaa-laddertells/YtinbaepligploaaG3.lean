/- LadderMoved, walked. -/
import Derived.Test.YtinbaepligploaaG1
namespace Go.Proofs.Ytinbaepligploaa
open Go.RowKit Go.Shelf

/-- Five numbers, by place. -/
def nth5 (r : Int × Int × Int × Int × Int) (j : Nat) : Int := (five r).getD j 0
theorem Bk.nth5 {w : World} {b : Nat} {r : Int × Int × Int × Int × Int} (h : Bk w b 57 #[.int .i64 r.1, .int .i64 r.2.1, .int .i64 r.2.2.1, .int .i64 r.2.2.2.1, .int .i64 r.2.2.2.2]) {j : Nat} (hj : j < 5) : w.cell? ⟨b, j, none⟩ = some (.int .i64 (nth5 r j)) := by
  match j, hj with
  | 0, _ => exact h.cell 0 _ rfl
  | 1, _ => exact h.cell 1 _ rfl
  | 2, _ => exact h.cell 2 _ rfl
  | 3, _ => exact h.cell 3 _ rfl
  | 4, _ => exact h.cell 4 _ rfl
/-- What becomes of the rungs. -/
theorem moved {l wn g k f c by_ c' : Int} (h1 : 0 ≤ by_) (h2 : by_ ≤ 1073741824) (h3 : 0 ≤ f) (h4 : f ≤ 1073741824) (h5 : c ≤ 1073741824) (hc : (0 ≤ c ∧ c' = c + by_) ∨ (c < 0 ∧ c' = c)) :
    (∀ j, j < 5 → (0 ≤ nth5 (rungE l wn g k f c) j ∧ nth5 (rungE l wn g k f c) j ≤ 5000000000) ∧ nth5 (rungE l wn g k (f + by_) c') j = nth5 (rungE l wn g k f c) j + by_) ∨ (∀ j, j < 5 → nth5 (rungE l wn g k f c) j = -1 ∧ nth5 (rungE l wn g k (f + by_) c') j = -1) := by
  cases q : mayB l wn g k f c
  · right
    have q' : mayB l wn g k (f + by_) c' = false := by
      rw [← Bool.not_eq_true] at q ⊢
      rw [may_iff] at q ⊢
      omega
    intro j hj
    unfold rungE
    rw [q, q']
    match j, hj with
    | 0, _ => exact ⟨rfl, rfl⟩
    | 1, _ => exact ⟨rfl, rfl⟩
    | 2, _ => exact ⟨rfl, rfl⟩
    | 3, _ => exact ⟨rfl, rfl⟩
    | 4, _ => exact ⟨rfl, rfl⟩
  · left
    have q' : mayB l wn g k (f + by_) c' = true := by
      rw [may_iff] at q ⊢
      omega
    have p := may_iff.1 q
    have e := end_range q
    have e' : endV l (f + by_) c' = endV l f c + by_ := by
      unfold endV
      split <;> split <;> omega
    intro j hj
    unfold rungE
    rw [if_pos q, if_pos q']
    unfold rungV
    rw [e']
    match j, hj with
    | 0, _ => simp [nth5]; omega
    | 1, _ => simp [nth5]; omega
    | 2, _ => simp [nth5]; omega
    | 3, _ => simp [nth5]; omega
    | 4, _ => simp [nth5]; omega

set_option maxRecDepth 100000 in
set_option maxHeartbeats 4000000 in
theorem moved_any (l wn g k f c by_ : Int) (w : World) : Calls Try.prog 11 #[.agg #[.int .i64 l, .int .i64 wn, .int .i64 g, .int .i64 k], .agg #[.int .i64 f, .int .i64 c], .int .i64 by_] w fun x w' => x = .returned (.bool true) ∧ Below w.heap.size w w' := by
  have tw := Tw.new w l wn g k f c
  go_enter Try.func11, Try.ntmps11
  by_cases h0 : by_ < 0
  · go_wp2_with fail
    refine (live_any _).mono ?_
    rintro x w3 ⟨rfl, hb⟩
    go_wp2_with fail
    go_ret
    exact ⟨rfl, bmore tw.low hb⟩
  by_cases h1 : 1073741824 < by_
  · go_wp2_with fail
    refine (live_any _).mono ?_
    rintro x w3 ⟨rfl, hb⟩
    go_wp2_with fail
    go_ret
    exact ⟨rfl, bmore tw.low hb⟩
  by_cases h2 : f < 0
  · go_wp2_with fail
    refine (live_any _).mono ?_
    rintro x w3 ⟨rfl, hb⟩
    go_wp2_with fail
    go_ret
    exact ⟨rfl, bmore tw.low hb⟩
  by_cases h3 : 1073741824 < f
  · go_wp2_with fail
    refine (live_any _).mono ?_
    rintro x w3 ⟨rfl, hb⟩
    go_wp2_with fail
    go_ret
    exact ⟨rfl, bmore tw.low hb⟩
  by_cases h4 : 1073741824 < c
  · go_wp2_with fail
    refine (live_any _).mono ?_
    rintro x w3 ⟨rfl, hb⟩
    go_wp2_with fail
    go_ret
    exact ⟨rfl, bmore tw.low hb⟩
  go_wp2_with fail
  refine (own_any _ _ _ _ _ _ _).mono ?_
  rintro x w1 ⟨rfl, hb⟩
  have st := (tw.next hb).more
  clear tw hb
  obtain ⟨-, -, ⟨x0, x1, x2, x3⟩, y0, y1⟩ := st.cells
  by_cases hc : 0 ≤ c
  · have HM := moved (l := l) (wn := wn) (g := g) (k := k) (show 0 ≤ by_ by omega) (show by_ ≤ 1073741824 by omega) (show 0 ≤ f by omega) (show f ≤ 1073741824 by omega) (show c ≤ 1073741824 by omega) (.inl ⟨hc, rfl⟩ : (0 ≤ c ∧ c + by_ = c + by_) ∨ (c < 0 ∧ c + by_ = c))
    have K1 := Lib.hid (rungs_any l wn g k f c)
    have K2 := Lib.hid (rungs_any l wn g k (f + by_) (c + by_))
    generalize rungE l wn g k f c = ra at *
    generalize rungE l wn g k (f + by_) (c + by_) = rb at *
    obtain ⟨p0, p1, p2, p3, p4⟩ := ra
    obtain ⟨s0, s1, s2, s3, s4⟩ := rb
    replace HM := Lib.hid HM
    have lb := below_alloc ((w1.alloc (.cells #[.int .i64 l, .int .i64 wn, .int .i64 g, .int .i64 k] 53)).alloc (.cells #[.int .i64 f, .int .i64 c] 54)) (.cells #[.int .i64 (f + by_), .int .i64 (c + by_)] 54)
    have kz := Bk.new ((w1.alloc (.cells #[.int .i64 l, .int .i64 wn, .int .i64 g, .int .i64 k] 53)).alloc (.cells #[.int .i64 f, .int .i64 c] 54)) 54 #[.int .i64 (f + by_), .int .i64 (c + by_)]
    rw [size_alloc, size_alloc] at kz
    replace st := st.next lb
    clear lb
    obtain ⟨-, -, ⟨x0', x1', x2', x3'⟩, y0', y1'⟩ := st.cells
    go_wp2_with fail
    refine (K1.out _).mono ?_
    rintro x w3 ⟨rfl, hb⟩
    have lb := below_alloc w3 (.cells #[.int .i64 p0, .int .i64 p1, .int .i64 p2, .int .i64 p3, .int .i64 p4] 57)
    have ka := Bk.new w3 57 #[.int .i64 p0, .int .i64 p1, .int .i64 p2, .int .i64 p3, .int .i64 p4]
    replace st := (st.next hb).next lb
    replace kz := (kz.next hb).next lb
    clear lb hb K1 x0 x1 x2 x3 y0 y1 x0' x1' x2' x3' y0' y1'
    obtain ⟨-, -, ⟨x0, x1, x2, x3⟩, y0, y1⟩ := st.cells
    have z0 := kz.cell 0 _ rfl
    have z1 := kz.cell 1 _ rfl
    go_wp2_with fail
    refine (K2.out _).mono ?_
    rintro x w4 ⟨rfl, hb⟩
    have lb := below_alloc w4 (.cells #[.int .i64 s0, .int .i64 s1, .int .i64 s2, .int .i64 s3, .int .i64 s4] 57)
    have kb := Bk.new w4 57 #[.int .i64 s0, .int .i64 s1, .int .i64 s2, .int .i64 s3, .int .i64 s4]
    replace ka := (ka.next hb).next lb
    have low := bmore (bmore st.low hb) lb
    clear lb hb K2 x0 x1 x2 x3 y0 y1 z0 z1 kz st
    go_wp2_with fail
    generalize w4.alloc (.cells #[.int .i64 s0, .int .i64 s1, .int .i64 s2, .int .i64 s3, .int .i64 s4] 57) = W at *
    go_loopw [12] (fun i wr => ∃ j : Nat, j ≤ 5 ∧ i = .int .i64 j ∧ Below W.heap.size W wr) (fun i _ => 5 - (intOf i).toNat)
    case atStart => exact ⟨0, Nat.zero_le _, rfl, Below.refl _ _⟩
    case round =>
      obtain ⟨j, hj, rfl, hb⟩ := hrel
      by_cases hlt : j < 5
      · have qa := (ka.next hb).nth5 (r := (p0, p1, p2, p3, p4)) hlt
        have qb := (kb.next hb).nth5 (r := (s0, s1, s2, s3, s4)) hlt
        rcases HM.out with hm | hm
        · obtain ⟨⟨m1, m2⟩, m3⟩ := hm j hlt
          rw [m3] at qb
          clear m3 hm
          generalize nth5 (p0, p1, p2, p3, p4) j = z at *
          have m4 : decide (z < 0) = false := by simp; omega
          go_wp2_with fail
          go_quiet (fail)
          go_wp2_with fail
          go_quiet (fail)
          go_wp2_with fail
          go_roundw
          case rel => exact ⟨j + 1, by omega, by go_num, below_drewN' hb _⟩
          case measure => simp [intOf]; omega
        · obtain ⟨m1, m2⟩ := hm j hlt
          rw [m1] at qa
          rw [m2] at qb
          clear m1 m2 hm
          go_wp2_with fail
          go_quiet (fail)
          go_wp2_with fail
          go_quiet (fail)
          go_wp2_with fail
          go_roundw
          case rel => exact ⟨j + 1, by omega, by go_num, below_drewN' hb _⟩
          case measure => simp [intOf]; omega
      · obtain rfl : j = 5 := by omega
        go_wp2_with fail
        refine (live_any _).mono ?_
        rintro x w6 ⟨rfl, hb6⟩
        go_wp2_with fail
        go_ret
        exact ⟨rfl, bmore (bmore low hb) hb6⟩
  · have HM := moved (l := l) (wn := wn) (g := g) (k := k) (show 0 ≤ by_ by omega) (show by_ ≤ 1073741824 by omega) (show 0 ≤ f by omega) (show f ≤ 1073741824 by omega) (show c ≤ 1073741824 by omega) (.inr ⟨by omega, rfl⟩ : (0 ≤ c ∧ c = c + by_) ∨ (c < 0 ∧ c = c))
    have K1 := Lib.hid (rungs_any l wn g k f c)
    have K2 := Lib.hid (rungs_any l wn g k (f + by_) (c))
    generalize rungE l wn g k f c = ra at *
    generalize rungE l wn g k (f + by_) (c) = rb at *
    obtain ⟨p0, p1, p2, p3, p4⟩ := ra
    obtain ⟨s0, s1, s2, s3, s4⟩ := rb
    replace HM := Lib.hid HM
    have lb := below_alloc ((w1.alloc (.cells #[.int .i64 l, .int .i64 wn, .int .i64 g, .int .i64 k] 53)).alloc (.cells #[.int .i64 f, .int .i64 c] 54)) (.cells #[.int .i64 (f + by_), .int .i64 (c)] 54)
    have kz := Bk.new ((w1.alloc (.cells #[.int .i64 l, .int .i64 wn, .int .i64 g, .int .i64 k] 53)).alloc (.cells #[.int .i64 f, .int .i64 c] 54)) 54 #[.int .i64 (f + by_), .int .i64 (c)]
    rw [size_alloc, size_alloc] at kz
    replace st := st.next lb
    clear lb
    obtain ⟨-, -, ⟨x0', x1', x2', x3'⟩, y0', y1'⟩ := st.cells
    go_wp2_with fail
    refine (K1.out _).mono ?_
    rintro x w3 ⟨rfl, hb⟩
    have lb := below_alloc w3 (.cells #[.int .i64 p0, .int .i64 p1, .int .i64 p2, .int .i64 p3, .int .i64 p4] 57)
    have ka := Bk.new w3 57 #[.int .i64 p0, .int .i64 p1, .int .i64 p2, .int .i64 p3, .int .i64 p4]
    replace st := (st.next hb).next lb
    replace kz := (kz.next hb).next lb
    clear lb hb K1 x0 x1 x2 x3 y0 y1 x0' x1' x2' x3' y0' y1'
    obtain ⟨-, -, ⟨x0, x1, x2, x3⟩, y0, y1⟩ := st.cells
    have z0 := kz.cell 0 _ rfl
    have z1 := kz.cell 1 _ rfl
    go_wp2_with fail
    refine (K2.out _).mono ?_
    rintro x w4 ⟨rfl, hb⟩
    have lb := below_alloc w4 (.cells #[.int .i64 s0, .int .i64 s1, .int .i64 s2, .int .i64 s3, .int .i64 s4] 57)
    have kb := Bk.new w4 57 #[.int .i64 s0, .int .i64 s1, .int .i64 s2, .int .i64 s3, .int .i64 s4]
    replace ka := (ka.next hb).next lb
    have low := bmore (bmore st.low hb) lb
    clear lb hb K2 x0 x1 x2 x3 y0 y1 z0 z1 kz st
    go_wp2_with fail
    generalize w4.alloc (.cells #[.int .i64 s0, .int .i64 s1, .int .i64 s2, .int .i64 s3, .int .i64 s4] 57) = W at *
    go_loopw [12] (fun i wr => ∃ j : Nat, j ≤ 5 ∧ i = .int .i64 j ∧ Below W.heap.size W wr) (fun i _ => 5 - (intOf i).toNat)
    case atStart => exact ⟨0, Nat.zero_le _, rfl, Below.refl _ _⟩
    case round =>
      obtain ⟨j, hj, rfl, hb⟩ := hrel
      by_cases hlt : j < 5
      · have qa := (ka.next hb).nth5 (r := (p0, p1, p2, p3, p4)) hlt
        have qb := (kb.next hb).nth5 (r := (s0, s1, s2, s3, s4)) hlt
        rcases HM.out with hm | hm
        · obtain ⟨⟨m1, m2⟩, m3⟩ := hm j hlt
          rw [m3] at qb
          clear m3 hm
          generalize nth5 (p0, p1, p2, p3, p4) j = z at *
          have m4 : decide (z < 0) = false := by simp; omega
          go_wp2_with fail
          go_quiet (fail)
          go_wp2_with fail
          go_quiet (fail)
          go_wp2_with fail
          go_roundw
          case rel => exact ⟨j + 1, by omega, by go_num, below_drewN' hb _⟩
          case measure => simp [intOf]; omega
        · obtain ⟨m1, m2⟩ := hm j hlt
          rw [m1] at qa
          rw [m2] at qb
          clear m1 m2 hm
          go_wp2_with fail
          go_quiet (fail)
          go_wp2_with fail
          go_quiet (fail)
          go_wp2_with fail
          go_roundw
          case rel => exact ⟨j + 1, by omega, by go_num, below_drewN' hb _⟩
          case measure => simp [intOf]; omega
      · obtain rfl : j = 5 := by omega
        go_wp2_with fail
        refine (live_any _).mono ?_
        rintro x w6 ⟨rfl, hb6⟩
        go_wp2_with fail
        go_ret
        exact ⟨rfl, bmore (bmore low hb) hb6⟩
end Go.Proofs.Ytinbaepligploaa
