/- The document's ladder: Check, May, End, Rungs, Stage, Between. -/
import Derived.Test.YtinbaepligploaaG3
namespace Go.Proofs.Ytinbaepligploaa
open Go.RowKit Go.Shelf

theorem chk_iff {l wn g k : Int} : chkB l wn g k = true ↔ (1 ≤ l ∧ l ≤ 1073741824) ∧ (0 ≤ wn ∧ wn ≤ l) ∧ (0 ≤ g ∧ g ≤ 1073741824) ∧ (0 ≤ k ∧ k ≤ 1073741824) := by simp [chkB, within_iff, and_assoc]
set_option maxRecDepth 100000 in
set_option maxHeartbeats 1000000 in
theorem rcheck_any (l wn g k : Int) (w : World) : Calls Try.prog 27 #[.agg #[.int .i64 l, .int .i64 wn, .int .i64 g, .int .i64 k]] w fun x w' => x = .returned (.int .i64 (chkE l wn g k)) ∧ Below w.heap.size w w' := by
  have hb0 := below_alloc w (.cells #[.int .i64 l, .int .i64 wn, .int .i64 g, .int .i64 k] 49)
  go_enter Try.func27, Try.ntmps27
  by_cases h0 : l < 1
  · have e := Lib.hid (show chkE l wn g k = 1 from by unfold chkE; rw [if_neg (by rw [chk_iff]; omega)])
    go_wp2_with fail
    go_ret
    exact ⟨by rw [e.out]; rfl, hb0⟩
  by_cases h1 : 1073741824 < l
  · have e := Lib.hid (show chkE l wn g k = 1 from by unfold chkE; rw [if_neg (by rw [chk_iff]; omega)])
    go_wp2_with fail
    go_ret
    exact ⟨by rw [e.out]; rfl, hb0⟩
  by_cases h2 : wn < 0
  · have e := Lib.hid (show chkE l wn g k = 1 from by unfold chkE; rw [if_neg (by rw [chk_iff]; omega)])
    go_wp2_with fail
    go_ret
    exact ⟨by rw [e.out]; rfl, hb0⟩
  by_cases h3 : l < wn
  · have e := Lib.hid (show chkE l wn g k = 1 from by unfold chkE; rw [if_neg (by rw [chk_iff]; omega)])
    go_wp2_with fail
    go_ret
    exact ⟨by rw [e.out]; rfl, hb0⟩
  by_cases h4 : g < 0
  · have e := Lib.hid (show chkE l wn g k = 1 from by unfold chkE; rw [if_neg (by rw [chk_iff]; omega)])
    go_wp2_with fail
    go_ret
    exact ⟨by rw [e.out]; rfl, hb0⟩
  by_cases h5 : 1073741824 < g
  · have e := Lib.hid (show chkE l wn g k = 1 from by unfold chkE; rw [if_neg (by rw [chk_iff]; omega)])
    go_wp2_with fail
    go_ret
    exact ⟨by rw [e.out]; rfl, hb0⟩
  by_cases h6 : k < 0
  · have e := Lib.hid (show chkE l wn g k = 1 from by unfold chkE; rw [if_neg (by rw [chk_iff]; omega)])
    go_wp2_with fail
    go_ret
    exact ⟨by rw [e.out]; rfl, hb0⟩
  by_cases h7 : 1073741824 < k
  · have e := Lib.hid (show chkE l wn g k = 1 from by unfold chkE; rw [if_neg (by rw [chk_iff]; omega)])
    go_wp2_with fail
    go_ret
    exact ⟨by rw [e.out]; rfl, hb0⟩
  have e := Lib.hid (show chkE l wn g k = 0 from by unfold chkE; rw [if_pos (by rw [chk_iff]; omega)])
  go_wp2_with fail
  go_ret
  exact ⟨by rw [e.out]; rfl, hb0⟩
theorem Tw.cells {w V : World} {a b : Nat} {l wn g k f c : Int} (h : Tw w V a b l wn g k f c) : V.cell? ⟨a, 0, none⟩ = some (.int .i64 l) ∧ V.cell? ⟨a, 1, none⟩ = some (.int .i64 wn) ∧ V.cell? ⟨a, 2, none⟩ = some (.int .i64 g) ∧ V.cell? ⟨a, 3, none⟩ = some (.int .i64 k) ∧ V.cell? ⟨b, 0, none⟩ = some (.int .i64 f) ∧ V.cell? ⟨b, 1, none⟩ = some (.int .i64 c) :=
  ⟨h.ba.cell 0 _ rfl, h.ba.cell 1 _ rfl, h.ba.cell 2 _ rfl, h.ba.cell 3 _ rfl, h.bb.cell 0 _ rfl, h.bb.cell 1 _ rfl⟩
set_option maxRecDepth 100000 in
set_option maxHeartbeats 1000000 in
theorem rmay_any (l wn g k f c : Int) (w : World) : Calls Try.prog 48 #[.agg #[.int .i64 l, .int .i64 wn, .int .i64 g, .int .i64 k], .agg #[.int .i64 f, .int .i64 c]] w fun x w' => x = .returned (.bool (mayB l wn g k f c)) ∧ Below w.heap.size w w' := by
  have st := Tw.new w l wn g k f c
  go_enter Try.func48, Try.ntmps48
  go_wp2_with fail
  refine (rcheck_any _ _ _ _ _).mono ?_
  rintro x w1 ⟨rfl, hb⟩
  replace st := st.next hb
  obtain ⟨a0, a1, a2, a3, b0, b1⟩ := st.cells
  clear hb
  have e0 := chkE_zero l wn g k
  cases q1 : chkB l wn g k
  · rw [q1] at e0
    have e := Lib.hid (show mayB l wn g k f c = false from by simp [mayB, q1])
    go_wp2_with fail
    go_ret
    exact ⟨by rw [e.out]; rfl, st.low⟩
  rw [q1] at e0
  have p := Lib.hid (chk_iff.1 q1)
  clear q1
  by_cases h0 : f < 0
  · have e := Lib.hid (show mayB l wn g k f c = false from by have := p.out; rw [← Bool.not_eq_true, may_iff]; omega)
    go_wp2_with fail
    go_ret
    exact ⟨by rw [e.out]; rfl, st.low⟩
  by_cases h1 : 1099511627776 < f
  · have e := Lib.hid (show mayB l wn g k f c = false from by have := p.out; rw [← Bool.not_eq_true, may_iff]; omega)
    go_wp2_with fail
    go_ret
    exact ⟨by rw [e.out]; rfl, st.low⟩
  by_cases h2 : c = -1
  · have e := Lib.hid (show mayB l wn g k f c = true from by have := p.out; rw [may_iff]; omega)
    have t0 : (c == -1) = true := by simpa using h2
    clear h2
    go_wp2_with fail
    go_ret
    exact ⟨by rw [e.out]; rfl, st.low⟩
  have t0 : (c == -1) = false := by simpa using h2
  by_cases h3 : f ≤ c
  · by_cases h4 : c ≤ 1099511627776
    · have e := Lib.hid (show mayB l wn g k f c = true from by have := p.out; rw [may_iff]; omega)
      clear h2
      go_wp2_with fail
      go_ret
      exact ⟨by rw [e.out]; rfl, st.low⟩
    · have e := Lib.hid (show mayB l wn g k f c = false from by have := p.out; rw [← Bool.not_eq_true, may_iff]; omega)
      have t4 : decide (c ≤ 1099511627776) = false := by simp; omega
      clear h2
      go_wp2_with fail
      go_ret
      exact ⟨by rw [e.out]; rfl, st.low⟩
  · have e := Lib.hid (show mayB l wn g k f c = false from by have := p.out; rw [← Bool.not_eq_true, may_iff]; omega)
    clear h2
    go_wp2_with fail
    go_ret
    exact ⟨by rw [e.out]; rfl, st.low⟩

set_option maxRecDepth 100000 in
set_option maxHeartbeats 1000000 in
theorem rend_any (l wn g k f c : Int) (w : World) : Calls Try.prog 29 #[.agg #[.int .i64 l, .int .i64 wn, .int .i64 g, .int .i64 k], .agg #[.int .i64 f, .int .i64 c]] w fun x w' => x = .returned (.int .i64 (endE l wn g k f c)) ∧ Below w.heap.size w w' := by
  have st := Tw.new w l wn g k f c
  go_enter Try.func29, Try.ntmps29
  go_wp2_with fail
  refine (rmay_any _ _ _ _ _ _ _).mono ?_
  rintro x w1 ⟨rfl, hb⟩
  replace st := st.next hb
  obtain ⟨a0, a1, a2, a3, b0, b1⟩ := st.cells
  clear hb
  cases q1 : mayB l wn g k f c
  · have e := Lib.hid (show endE l wn g k f c = -1 from by simp [endE, q1])
    go_wp2_with fail
    go_ret
    exact ⟨by rw [e.out]; rfl, st.low⟩
  obtain ⟨⟨h1, h2⟩, -, -, -, ⟨h9, h10⟩, h11⟩ := may_iff.1 q1
  by_cases hc : 0 ≤ c
  · by_cases hl : c < f + l
    · have e := Lib.hid (show endE l wn g k f c = c from by unfold endE endV; rw [if_pos q1, if_neg (by omega)]; omega)
      clear h11 q1
      go_wp2_with fail
      go_ret
      exact ⟨by rw [e.out]; rfl, st.low⟩
    · have e := Lib.hid (show endE l wn g k f c = f + l from by unfold endE endV; rw [if_pos q1, if_neg (by omega)]; omega)
      clear h11 q1
      go_wp2_with fail
      go_ret
      exact ⟨by rw [e.out]; rfl, st.low⟩
  · have e := Lib.hid (show endE l wn g k f c = f + l from by unfold endE endV; rw [if_pos q1, if_pos (by omega)])
    clear h11 q1
    go_wp2_with fail
    go_ret
    exact ⟨by rw [e.out]; rfl, st.low⟩

/-- A new slice of these five. -/
def Five (w : World) (r : Int × Int × Int × Int × Int) (e : Ending) (w' : World) : Prop :=
  ∃ b, e = .returned (.slice (some ⟨b, 0, none⟩) 5 5) ∧ Bk w' b 3 #[.int .i64 r.1, .int .i64 r.2.1, .int .i64 r.2.2.1, .int .i64 r.2.2.2.1, .int .i64 r.2.2.2.2] ∧ Below w.heap.size w w'
theorem bk_nth5t {w : World} {b t : Nat} {r : Int × Int × Int × Int × Int} (h : Bk w b t #[.int .i64 r.1, .int .i64 r.2.1, .int .i64 r.2.2.1, .int .i64 r.2.2.2.1, .int .i64 r.2.2.2.2]) {j : Nat} (hj : j < 5) : w.cell? ⟨b, j, none⟩ = some (.int .i64 (nth5 r j)) := by
  match j, hj with
  | 0, _ => exact h.cell 0 _ rfl
  | 1, _ => exact h.cell 1 _ rfl
  | 2, _ => exact h.cell 2 _ rfl
  | 3, _ => exact h.cell 3 _ rfl
  | 4, _ => exact h.cell 4 _ rfl
theorem Bk.ints5 {w : World} {b t : Nat} {r : Int × Int × Int × Int × Int} (h : Bk w b t #[.int .i64 r.1, .int .i64 r.2.1, .int .i64 r.2.2.1, .int .i64 r.2.2.2.1, .int .i64 r.2.2.2.2]) : IntsAt w (some ⟨b, 0, none⟩) (five r) := by
  refine .inr ⟨_, rfl, h.lt, ?_⟩
  intro j hj
  match j, hj with
  | 0, _ => exact h.cell 0 _ rfl
  | 1, _ => exact h.cell 1 _ rfl
  | 2, _ => exact h.cell 2 _ rfl
  | 3, _ => exact h.cell 3 _ rfl
  | 4, _ => exact h.cell 4 _ rfl
set_option maxRecDepth 100000 in
set_option maxHeartbeats 1000000 in
theorem rrungs_any (l wn g k f c : Int) (w : World) : Calls Try.prog 31 #[.agg #[.int .i64 l, .int .i64 wn, .int .i64 g, .int .i64 k], .agg #[.int .i64 f, .int .i64 c]] w (Five w (rungE l wn g k f c)) := by
  have st := Tw.new w l wn g k f c
  go_enter Try.func31, Try.ntmps31
  go_wp2_with fail
  refine (rmay_any _ _ _ _ _ _ _).mono ?_
  rintro x w1 ⟨rfl, hb⟩
  replace st := st.next hb
  obtain ⟨a0, a1, a2, a3, b0, b1⟩ := st.cells
  clear hb
  cases q1 : mayB l wn g k f c
  · have e := Lib.hid (show rungE l wn g k f c = (-1, -1, -1, -1, -1) from by simp [rungE, q1])
    go_wp2_with fail
    go_ret
    rw [e.out]
    exact ⟨_, rfl, Bk.new _ _ _, bmore st.low (below_alloc _ _)⟩
  obtain ⟨⟨h1, h2⟩, ⟨h3, h4⟩, ⟨h5, h6⟩, ⟨h7, h8⟩, ⟨h9, h10⟩, h11⟩ := may_iff.1 q1
  clear h11
  obtain ⟨h12, h13⟩ := end_range q1
  obtain ⟨n, hn⟩ : ∃ n, n = endV l f c := ⟨_, rfl⟩
  rw [← hn] at h12 h13
  have HN := Lib.hid hn
  have HE := Lib.hid (show endE l wn g k f c = n from by unfold endE; rw [if_pos q1, hn])
  clear hn
  have K := Lib.hid (rend_any l wn g k f c)
  rw [HE.out] at K
  go_wp2_with fail
  refine (K.out _).mono ?_
  rintro x w2 ⟨rfl, hb⟩
  replace st := st.next hb
  clear a0 a1 a2 a3 b0 b1
  obtain ⟨a0, a1, a2, a3, b0, b1⟩ := st.cells
  clear hb K
  by_cases hlt : n < f + l - wn
  · have e2 := Lib.hid (show rungE l wn g k f c = (f, n, n, n + g, n + g + k) from by unfold rungE rungV; rw [if_pos q1, ← HN.out]; simp only [Prod.mk.injEq, true_and, and_true]; omega)
    clear q1
    go_wp2_with fail
    go_ret
    rw [e2.out]
    exact ⟨_, rfl, Bk.new _ _ _, bmore st.low (below_alloc _ _)⟩
  · have e2 := Lib.hid (show rungE l wn g k f c = (f, f + l - wn, n, n + g, n + g + k) from by unfold rungE rungV; rw [if_pos q1, ← HN.out]; simp only [Prod.mk.injEq, true_and, and_true]; omega)
    clear q1
    go_wp2_with fail
    go_ret
    rw [e2.out]
    exact ⟨_, rfl, Bk.new _ _ _, bmore st.low (below_alloc _ _)⟩

/-- The last of the first j that has begun. -/
def pst (r : Int × Int × Int × Int × Int) (now : Int) : Nat → Int
  | 0 => -1
  | j + 1 => if nth5 r j ≤ now then (j : Int) else pst r now j
theorem pst_five (r : Int × Int × Int × Int × Int) (now : Int) : pst r now 5 = stageOf (back (five r) 5) now := by
  obtain ⟨r0, r1, r2, r3, r4⟩ := r
  rw [stageOf5]
  rfl
set_option maxRecDepth 100000 in
set_option maxHeartbeats 1000000 in
theorem rstage_any (l wn g k f c now : Int) (w : World) : Calls Try.prog 33 #[.agg #[.int .i64 l, .int .i64 wn, .int .i64 g, .int .i64 k], .agg #[.int .i64 f, .int .i64 c], .int .i64 now] w fun x w' => x = .returned (.int .i64 (stageE l wn g k f c now)) ∧ Below w.heap.size w w' := by
  have st := Tw.new w l wn g k f c
  go_enter Try.func33, Try.ntmps33
  go_wp2_with fail
  refine (rmay_any _ _ _ _ _ _ _).mono ?_
  rintro x w1 ⟨rfl, hb⟩
  replace st := st.next hb
  obtain ⟨a0, a1, a2, a3, b0, b1⟩ := st.cells
  clear hb
  cases q1 : mayB l wn g k f c
  · have e := Lib.hid (show stageE l wn g k f c now = -1 from by simp [stageE, q1])
    go_wp2_with fail
    go_ret
    exact ⟨by rw [e.out]; rfl, st.low⟩
  have HS := Lib.hid (show stageE l wn g k f c now = pst (rungE l wn g k f c) now 5 from by rw [pst_five]; simp [stageE, q1])
  have K := Lib.hid (rrungs_any l wn g k f c)
  generalize rungE l wn g k f c = r at *
  clear q1
  go_wp2_with fail
  refine (K.out _).mono ?_
  rintro x w2 ⟨b, rfl, kb, hb⟩
  have low := bmore st.low hb
  clear hb K a0 a1 a2 a3 b0 b1 st
  go_wp2_with fail
  go_loop [8, 9] (fun o i => ∃ j : Nat, j ≤ 5 ∧ o = .int .i64 (pst r now j) ∧ i = .int .i64 j) (fun _ i => 5 - (intOf i).toNat)
  case atStart => exact ⟨0, Nat.zero_le _, rfl, rfl⟩
  case round =>
    obtain ⟨j, hj, rfl, rfl⟩ := hrel
    by_cases hlt : j < 5
    · have h2 := bk_nth5t kb hlt
      have HP := Lib.hid (show pst r now (j + 1) = if nth5 r j ≤ now then (j : Int) else pst r now j from rfl)
      generalize nth5 r j = z at *
      generalize pst r now j = s at *
      by_cases hzn : z ≤ now
      · rw [if_pos hzn] at HP
        go_wp2_with fail
        go_round
        case rel => exact ⟨j + 1, by omega, by rw [HP.out], by go_num⟩
        case measure => simp [intOf]; omega
      · rw [if_neg hzn] at HP
        go_wp2_with fail
        go_round
        case rel => exact ⟨j + 1, by omega, by rw [HP.out], by go_num⟩
        case measure => simp [intOf]; omega
    · obtain rfl : j = 5 := by omega
      go_wp2_with fail
      go_ret
      exact ⟨by rw [HS.out]; rfl, low⟩

/-- Those of the first j that begin behind fr, up to to. -/
def pbt (r : Int × Int × Int × Int × Int) (fr to : Int) : Nat → List Int
  | 0 => []
  | j + 1 => if fr < nth5 r j ∧ nth5 r j ≤ to then pbt r fr to j ++ [(j : Int)] else pbt r fr to j
theorem pbt_len (r : Int × Int × Int × Int × Int) (fr to : Int) : ∀ j, (pbt r fr to j).length ≤ j
  | 0 => Nat.le_refl _
  | j + 1 => by
    have := pbt_len r fr to j
    unfold pbt
    split
    · rw [List.length_append]; simp; omega
    · omega
theorem chain_lt {x0 x1 x2 x3 x4 now a : Int} (h1 : x0 ≤ x1) (h2 : x1 ≤ x2) (h3 : x2 ≤ x3) (h4 : x3 ≤ x4) (ha : a = if x4 ≤ now then 4 else if x3 ≤ now then 3 else if x2 ≤ now then 2 else if x1 ≤ now then 1 else if x0 ≤ now then 0 else -1) :
    (now < x0 ↔ a < 0) ∧ (now < x1 ↔ a < 1) ∧ (now < x2 ↔ a < 2) ∧ (now < x3 ↔ a < 3) ∧ (now < x4 ↔ a < 4) := by
  subst ha
  refine ⟨?_, ?_, ?_, ?_, ?_⟩
  all_goals (repeat' split)
  all_goals omega
theorem pbt_five {l wn g k f c : Int} (q : mayB l wn g k f c = true) (fr to : Int) : pbt (rungE l wn g k f c) fr to 5 = btw (stageE l wn g k f c fr) (stageE l wn g k f c to) := by
  have p := may_iff.1 q
  obtain ⟨a1, a2⟩ := stageE_range l wn g k f c fr
  obtain ⟨b1, b2⟩ := stageE_range l wn g k f c to
  obtain ⟨m, n, e1, e2, r1, r2, r3, HS⟩ := rungs_ok q
  obtain ⟨u0, u1, u2, u3, u4⟩ := chain_lt r1 r2 (show n ≤ n + g by omega) (show n + g ≤ n + g + k by omega) (HS fr)
  obtain ⟨v0, v1, v2, v3, v4⟩ := chain_lt r1 r2 (show n ≤ n + g by omega) (show n + g ≤ n + g + k by omega) (HS to)
  rw [e1]
  generalize stageE l wn g k f c fr = a at *
  generalize stageE l wn g k f c to = b at *
  simp only [pbt, nth5, five, List.getD_cons_zero, List.getD_cons_succ]
  simp only [u0, u1, u2, u3, u4, show f ≤ to ↔ 0 ≤ b by omega, show m ≤ to ↔ 1 ≤ b by omega, show n ≤ to ↔ 2 ≤ b by omega, show n + g ≤ to ↔ 3 ≤ b by omega, show n + g + k ≤ to ↔ 4 ≤ b by omega]
  clear u0 u1 u2 u3 u4 v0 v1 v2 v3 v4 HS e1 e2 r1 r2 r3 p q
  rcases (show a = -1 ∨ a = 0 ∨ a = 1 ∨ a = 2 ∨ a = 3 ∨ a = 4 by omega) with rfl | rfl | rfl | rfl | rfl | rfl <;> rcases (show b = -1 ∨ b = 0 ∨ b = 1 ∨ b = 2 ∨ b = 3 ∨ b = 4 by omega) with rfl | rfl | rfl | rfl | rfl | rfl <;> rfl
set_option maxRecDepth 100000 in
set_option maxHeartbeats 1000000 in
theorem rbetween_any (l wn g k f c fr to : Int) (w : World) : Calls Try.prog 35 #[.agg #[.int .i64 l, .int .i64 wn, .int .i64 g, .int .i64 k], .agg #[.int .i64 f, .int .i64 c], .int .i64 fr, .int .i64 to] w (Gives w (btw (stageE l wn g k f c fr) (stageE l wn g k f c to))) := by
  have st := Tw.new w l wn g k f c
  obtain ⟨i0, hi, hz0, hz1, hz2⟩ := info_parts info3
  go_enter Try.func35, Try.ntmps35
  go_wp2_with fail
  refine (rmay_any _ _ _ _ _ _ _).mono ?_
  rintro x w1 ⟨rfl, hb⟩
  replace st := st.next hb
  obtain ⟨a0, a1, a2, a3, b0, b1⟩ := st.cells
  clear hb
  cases q1 : mayB l wn g k f c
  · have e := Lib.hid (show stageE l wn g k f c fr = -1 from by simp [stageE, q1])
    have e' := Lib.hid (show stageE l wn g k f c to = -1 from by simp [stageE, q1])
    go_wp2_with fail
    go_ret
    rw [e.out, e'.out]
    exact ⟨_, rfl, World.ownsRow_nil _ _ _ _, st.low⟩
  have HS := Lib.hid (pbt_five q1 fr to)
  have K := Lib.hid (rrungs_any l wn g k f c)
  generalize rungE l wn g k f c = r at *
  clear q1
  go_wp2_with fail
  refine (K.out _).mono ?_
  rintro x w2 ⟨b, rfl, kb, hb⟩
  have low := bmore st.low hb
  have hsz := low.size
  clear hb K a0 a1 a2 a3 b0 b1 st
  go_wp2_with fail
  go_loopw [9, 11] (fun o i wr => ∃ j : Nat, j ≤ 5 ∧ i = .int .i64 j ∧ wr.ownsRow w2.heap.size 3 1 o (pbt r fr to j).length (iv (pbt r fr to j)) ∧ Below w2.heap.size w2 wr) (fun _ i _ => 5 - (intOf i).toNat)
  case atStart => exact ⟨0, Nat.zero_le _, rfl, World.ownsRow_nil _ _ _ _, Below.refl _ _⟩
  case round =>
    obtain ⟨j, hj, rfl, hrow, hb⟩ := hrel
    obtain ⟨A, cap, rfl⟩ := own_form hrow
    have hsz2 := hb.size
    have hln := pbt_len r fr to j
    by_cases hlt : j < 5
    · have h2 := bk_nth5t (kb.next hb) hlt
      have HP := Lib.hid (show pbt r fr to (j + 1) = if fr < nth5 r j ∧ nth5 r j ≤ to then pbt r fr to j ++ [(j : Int)] else pbt r fr to j from rfl)
      generalize nth5 r j = z at *
      generalize pbt r fr to j = s at *
      by_cases hz1 : fr < z
      · by_cases hz2 : z ≤ to
        · rw [if_pos ⟨hz1, hz2⟩] at HP
          go_wp2_with (at_builtin; refine wpList_append_own _ rfl _ _ 39 rfl w2.heap.size 3 i0 (.int .i64 0) 1 8 Try.underlying39 hi hz0 (by assumption) (by assumption) rfl (by decide) _ _ _ rfl (hrow.alloc _) ⟨wr.heap.size, 0, none⟩ 1 1 [.int .i64 (j : Int)] rfl rfl (cell_one_new _ _ _) (by simp [Value.oneCell']) (by unfold maxLen; omega) (by omega) (by simp; omega) ?_; intro v' w1 hown' hgrow _; obtain ⟨g', cap', rfl⟩ := ownsRow_succ hown'; have hb1 := appended_below hrow (by omega) hgrow)
          go_roundw
          case rel => exact ⟨j + 1, by omega, by go_num, by rw [HP.out, iv_snoc, List.length_append]; exact hown', hb.trans hb1⟩
          case measure => simp [intOf]; omega
        · rw [if_neg (fun h => hz2 h.2)] at HP
          go_wp2_with fail
          go_roundw
          case rel => exact ⟨j + 1, by omega, by go_num, by rw [HP.out]; exact hrow, hb⟩
          case measure => simp [intOf]; omega
      · rw [if_neg (fun h => hz1 h.1)] at HP
        go_wp2_with fail
        go_roundw
        case rel => exact ⟨j + 1, by omega, by go_num, by rw [HP.out]; exact hrow, hb⟩
        case measure => simp [intOf]; omega
    · obtain rfl : j = 5 := by omega
      rw [HS.out] at hrow ⊢
      go_wp2_with fail
      go_ret
      exact ⟨_, rfl, Joins.ownsRow_le hrow hsz, bmore low hb⟩
end Go.Proofs.Ytinbaepligploaa
