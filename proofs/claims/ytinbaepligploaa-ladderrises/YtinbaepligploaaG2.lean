/- LadderRises, walked. -/
import Derived.Test.YtinbaepligploaaG1
namespace Go.Proofs.Ytinbaepligploaa
open Go.RowKit Go.Shelf

theorem stage_mono {l wn g k f c s e : Int} (h : mayB l wn g k f c = true) (hse : s ≤ e) : stageE l wn g k f c s ≤ stageE l wn g k f c e := by
  obtain ⟨⟨h1, h2⟩, ⟨h3, h4⟩, ⟨h5, h6⟩, ⟨h7, h8⟩, ⟨h9, h10⟩, h11⟩ := may_iff.1 h
  obtain ⟨m, n, e1, e2, r1, r2, r3, HS⟩ := rungs_ok h
  rw [HS, HS]
  repeat' split
  all_goals omega

/-- The third box. -/
theorem Tw.third {w V : World} {a b : Nat} {l wn g k f c : Int} (h : Tw w V a b l wn g k f c) (s e : Int) : Tw w (V.alloc (.cells #[.int .i64 s, .int .i64 e] 52)) a b l wn g k f c := h.next (below_alloc _ _)

set_option maxRecDepth 100000 in
set_option maxHeartbeats 4000000 in
theorem rises_any (l wn g k f c s e : Int) (w : World) : Calls Try.prog 9 #[.agg #[.int .i64 l, .int .i64 wn, .int .i64 g, .int .i64 k], .agg #[.int .i64 f, .int .i64 c], .agg #[.int .i64 s, .int .i64 e]] w fun x w' => x = .returned (.bool true) ∧ Below w.heap.size w w' := by
  have tw := (Tw.new w l wn g k f c).third s e
  have kt := Bk.new ((w.alloc (.cells #[.int .i64 l, .int .i64 wn, .int .i64 g, .int .i64 k] 49)).alloc (.cells #[.int .i64 f, .int .i64 c] 51)) 52 #[.int .i64 s, .int .i64 e]
  rw [size_alloc, size_alloc] at kt
  go_enter Try.func9, Try.ntmps9
  go_wp2_with fail
  refine (own_any _ _ _ _ _ _ _).mono ?_
  rintro x w1 ⟨rfl, hb⟩
  have st := (tw.next hb).more
  replace kt := ((kt.next hb).alloc (.cells #[.int .i64 l, .int .i64 wn, .int .i64 g, .int .i64 k] 53)).alloc (.cells #[.int .i64 f, .int .i64 c] 54)
  clear tw hb
  have t0 := kt.cell 0 _ rfl
  have t1 := kt.cell 1 _ rfl
  obtain ⟨-, -, ⟨x0, x1, x2, x3⟩, y0, y1⟩ := st.cells
  by_cases hse : e < s
  · go_wp2_with fail
    refine (live_any _).mono ?_
    rintro x w3 ⟨rfl, hb⟩
    go_wp2_with fail
    go_ret
    exact ⟨rfl, bmore st.low hb⟩
  go_wp2_with fail
  refine (end_any _ _ _ _ _ _ _).mono ?_
  rintro x w2 ⟨rfl, hb⟩
  replace st := st.next hb
  replace kt := kt.next hb
  clear hb t0 t1 x0 x1 x2 x3 y0 y1
  cases q : mayB l wn g k f c
  · rw [show endE l wn g k f c = -1 from by unfold endE; rw [q]; rfl]
    clear q
    go_wp2_with fail
    refine (live_any _).mono ?_
    rintro x w3 ⟨rfl, hb⟩
    go_wp2_with fail
    go_ret
    exact ⟨rfl, bmore st.low hb⟩
  have hab := stage_mono q (show s ≤ e by omega)
  obtain ⟨m, n, e1, e2, r1, r2, r3, HS⟩ := rungs_ok q
  have hf : 0 ≤ n := by have := (may_iff.1 q).2.2.2.2.1.1; omega
  rw [e2]
  clear e1 e2 HS r1 r2 r3 q
  obtain ⟨ha1, ha2⟩ := stageE_range l wn g k f c s
  obtain ⟨hb1, hb2⟩ := stageE_range l wn g k f c e
  have K1 := Lib.hid (stage_any l wn g k f c s)
  have K2 := Lib.hid (stage_any l wn g k f c e)
  have K3 := Lib.hid (between_any l wn g k f c s e)
  generalize stageE l wn g k f c s = a at *
  generalize stageE l wn g k f c e = b at *
  have t0 := kt.cell 0 _ rfl
  have t1 := kt.cell 1 _ rfl
  obtain ⟨-, -, ⟨x0, x1, x2, x3⟩, y0, y1⟩ := st.cells
  go_wp2_with fail
  refine (K1.out _).mono ?_
  rintro x w3 ⟨rfl, hb⟩
  replace st := st.next hb
  replace kt := kt.next hb
  clear hb t0 t1 x0 x1 x2 x3 y0 y1 K1
  have t0 := kt.cell 0 _ rfl
  have t1 := kt.cell 1 _ rfl
  obtain ⟨-, -, ⟨x0, x1, x2, x3⟩, y0, y1⟩ := st.cells
  go_wp2_with fail
  refine (K2.out _).mono ?_
  rintro x w4 ⟨rfl, hb⟩
  replace st := st.next hb
  replace kt := kt.next hb
  clear hb t0 t1 x0 x1 x2 x3 y0 y1 K2
  have t0 := kt.cell 0 _ rfl
  have t1 := kt.cell 1 _ rfl
  obtain ⟨-, -, ⟨x0, x1, x2, x3⟩, y0, y1⟩ := st.cells
  go_wp2_with fail
  refine (K3.out _).mono ?_
  rintro x w5 ⟨v, rfl, hrow, hb⟩
  replace st := st.next hb
  clear hb t0 t1 x0 x1 x2 x3 y0 y1 K3 kt
  obtain ⟨A, cap, rfl⟩ := own_form hrow
  have hz := ints_iv rfl hrow
  have hln : (btw a b).length = (b - a).toNat := behind_length _ _
  rw [hln] at *
  unfold btw at hz
  obtain ⟨d, hd⟩ : ∃ d, d = (b - a).toNat := ⟨_, rfl⟩
  rw [← hd] at hz ⊢
  have hd2 : ((d : Int) != b - a) = false := by simp; omega
  have hd5 : d ≤ 5 := by omega
  have low := st.low
  clear hd hln hrow st
  go_wp2_with fail
  go_loopw [12] (fun i wr => ∃ j : Nat, j ≤ d ∧ i = .int .i64 j ∧ Below w5.heap.size w5 wr)
    (fun i _ => d - (intOf i).toNat)
  case atStart => exact ⟨0, Nat.zero_le _, rfl, Below.refl _ _⟩
  case round =>
    obtain ⟨j, hj, rfl, hb⟩ := hrel
    by_cases hlt : j < d
    · obtain ⟨ad, rfl, h1, h2⟩ := (hz.next hb).at_ (k := j) (by rw [behind_length]; exact hlt)
      rw [show (behind a d).getD j 0 = a + 1 + (j : Int) from by simp [behind, List.getD, hlt]] at h2
      go_wp2_with fail
      go_roundw
      case rel => exact ⟨j + 1, by omega, by go_num, hb⟩
      case measure => simp [intOf]; omega
    · obtain rfl : j = d := by omega
      go_wp2_with fail
      refine (live_any _).mono ?_
      rintro x w6 ⟨rfl, hb6⟩
      go_wp2_with fail
      go_ret
      exact ⟨rfl, bmore (bmore low hb) hb6⟩
end Go.Proofs.Ytinbaepligploaa
