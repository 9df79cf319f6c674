/- down. -/
import Derived.Test.YtinbaepligploaaQ3
namespace Go.Proofs.Ytinbaepligploaa
open Go.RowKit Go.Shelf

/-- Where down stands. -/
def DnAt (n i0 i : Nat) (L L' : List Dl) : Prop := (i = i0 ∧ L' = L ∧ Hole n i0 L) ∨ (i0 < i ∧ Dn n i L')
theorem DnAt.hole {n i0 i : Nat} {L L' : List Dl} (h : DnAt n i0 i L L') : Hole n i L' := by
  rcases h with ⟨rfl, rfl, h⟩ | ⟨_, h⟩
  · exact h
  · exact h.1
/-- What down tells. -/
def DnEnd (n i0 : Nat) (L L' : List Dl) (b : Bool) : Prop := (b = true ∧ Heap n L') ∨ (b = false ∧ L' = L ∧ UpInv n i0 L)
theorem DnAt.ends {n i0 i : Nat} {L L' : List Dl} (h : DnAt n i0 i L L') (k : Kids n i L') : DnEnd n i0 L L' (decide (i0 < i)) := by
  rcases h with ⟨rfl, rfl, h⟩ | ⟨hi, h⟩
  · exact .inr ⟨by simp, rfl, h.up k⟩
  · exact .inl ⟨by simp; omega, h.done k⟩
def DnPost (p g cap n i0 : Nat) (L : List Dl) (V : World) (x : Ending) (V' : World) : Prop := ∃ L' b, x = .returned (.bool b) ∧ In p g cap n L V V' L' ∧ DnEnd n i0 L L' b
theorem par1 (i : Nat) : par (2 * i + 1) = i := by unfold par; omega
theorem par2 (i : Nat) : par (2 * i + 2) = i := by unfold par; omega
theorem kid_of {k i : Nat} (k0 : 0 < k) (h : par k = i) : k = 2 * i + 1 ∨ k = 2 * i + 2 := by unfold par at h; omega
set_option maxRecDepth 100000 in
set_option maxHeartbeats 8000000 in
theorem down_any {V : World} {p g cap : Nat} {L : List Dl} (h : QAt V p (.slice (some ⟨g, 0, none⟩) L.length cap) L) (i0 n : Nat) (hn : n ≤ L.length) (hm : L.length ≤ 1000) (h1000 : i0 ≤ 1000) (hu : Hole n i0 L) :
    Calls Try.prog 54 #[ifc p, .int .i64 (i0 : Int), .int .i64 (n : Int)] V (DnPost p g cap n i0 L V) := by
  have st := In.start (n := n) h
  have HN := Lib.hid hn
  have HM := Lib.hid hm
  have hn1 : n ≤ 1000 := by omega
  clear h hn hm
  go_enter Try.func54, Try.ntmps54
  go_wp2_with fail
  go_loopw [7] (fun iv wr => ∃ (i : Nat) (L' : List Dl), i ≤ 1000 ∧ iv = .int .i64 (i : Int) ∧ In p g cap n L V wr L' ∧ DnAt n i0 i L L') (fun iv _ => n - (intOf iv).toNat)
  case atStart => exact ⟨i0, L, h1000, rfl, st, .inl ⟨rfl, rfl, hu⟩⟩
  case round =>
    clear hu st
    obtain ⟨i, L', hi, rfl, st, hd⟩ := hrel
    replace hd := Lib.hid hd
    by_cases e1 : n ≤ 2 * i + 1
    · go_wp2_with fail
      go_ret
      exact ⟨L', _, rfl, st, hd.out.ends (kids_none e1)⟩
    have HL : Hid (n ≤ L'.length ∧ L'.length ≤ 1000) := Lib.hid (by have := st.len; have := HN.out; have := HM.out; omega)
    have c0 := st.q.blk.cell 0 _ rfl
    have ml := meth_less c0
    by_cases e2 : 2 * i + 2 < n
    · have HX := Lib.hid (less_any st.q.row (2 * i + 2) (2 * i + 1) (by have := HL.out; omega) (by have := HL.out; omega) HL.out.2)
      rw [show ((2 * i + 2 : Nat) : Int) = 2 * (i : Int) + 1 + 1 by omega, show ((2 * i + 1 : Nat) : Int) = 2 * (i : Int) + 1 by omega] at HX
      go_wp2_with fail
      refine HX.out.mono ?_
      rintro x w1 ⟨rfl, hb⟩
      replace st := st.below hb
      clear hb ml HX c0
      by_cases hjj : lt (nt L' (2 * i + 2)) (nt L' (2 * i + 1))
      · rw [decide_eq_true hjj]
        have HY := Lib.hid (less_any st.q.row (2 * i + 2) i (by have := HL.out; omega) (by have := HL.out; omega) HL.out.2)
        rw [show (((2 * i + 2 : Nat)) : Int) = 2 * (i : Int) + 1 + 1 by omega] at HY
        have c0 := st.q.blk.cell 0 _ rfl
        have ml := meth_less c0
        go_wp2_with fail
        refine HY.out.mono ?_
        rintro x w2 ⟨rfl, hb⟩
        replace st := st.below hb
        clear hb ml HY c0
        by_cases hlt : lt (nt L' (2 * i + 2)) (nt L' i)
        · rw [decide_eq_true hlt]
          have c0 := st.q.blk.cell 0 _ rfl
          have ms := meth_swap c0
          have HX := Lib.hid (swap_any st.q.row i (2 * i + 2) (by have := HL.out; omega) (by have := HL.out; omega) HL.out.2)
          rw [show (((2 * i + 2 : Nat)) : Int) = 2 * (i : Int) + 1 + 1 by omega] at HX
          go_wp2_with fail
          refine HX.out.mono ?_
          rintro x w3 ⟨⟨u, rfl⟩, hr, hg⟩
          have hd2 := Lib.hid (hd.out.hole.step (by have := HL.out; omega) (show 0 < 2 * i + 2 by omega) (show 2 * i + 2 < n by omega) (by first | exact par1 i | exact par2 i) hlt (fun k k0 kn kp => by rcases kid_of k0 kp with rfl | rfl; exact lt_asymm hjj; exact lt_irrefl _))
          have hi0 : i0 < 2 * i + 2 := by rcases hd.out with ⟨e, _⟩ | ⟨e, _⟩ <;> omega
          replace st := st.swap (show i < n by omega) (show 2 * i + 2 < n by omega) HN.out hr hg
          clear hr hg HX ms c0 hd
          go_wp2_with fail
          go_roundw
          case rel => exact ⟨2 * i + 2, _, by omega, by go_num, st, .inr ⟨hi0, hd2.out⟩⟩
          case measure => simp [intOf]; omega
        · rw [decide_eq_false hlt]
          go_wp2_with fail
          go_ret
          exact ⟨L', _, rfl, st, hd.out.ends (kids_two hlt (lt_asymm hjj) (lt_irrefl _))⟩
      · rw [decide_eq_false hjj]
        have HY := Lib.hid (less_any st.q.row (2 * i + 1) i (by have := HL.out; omega) (by have := HL.out; omega) HL.out.2)
        rw [show (((2 * i + 1 : Nat)) : Int) = 2 * (i : Int) + 1 by omega] at HY
        have c0 := st.q.blk.cell 0 _ rfl
        have ml := meth_less c0
        go_wp2_with fail
        refine HY.out.mono ?_
        rintro x w2 ⟨rfl, hb⟩
        replace st := st.below hb
        clear hb ml HY c0
        by_cases hlt : lt (nt L' (2 * i + 1)) (nt L' i)
        · rw [decide_eq_true hlt]
          have c0 := st.q.blk.cell 0 _ rfl
          have ms := meth_swap c0
          have HX := Lib.hid (swap_any st.q.row i (2 * i + 1) (by have := HL.out; omega) (by have := HL.out; omega) HL.out.2)
          rw [show (((2 * i + 1 : Nat)) : Int) = 2 * (i : Int) + 1 by omega] at HX
          go_wp2_with fail
          refine HX.out.mono ?_
          rintro x w3 ⟨⟨u, rfl⟩, hr, hg⟩
          have hd2 := Lib.hid (hd.out.hole.step (by have := HL.out; omega) (show 0 < 2 * i + 1 by omega) (show 2 * i + 1 < n by omega) (by first | exact par1 i | exact par2 i) hlt (fun k k0 kn kp => by rcases kid_of k0 kp with rfl | rfl; exact lt_irrefl _; exact hjj))
          have hi0 : i0 < 2 * i + 1 := by rcases hd.out with ⟨e, _⟩ | ⟨e, _⟩ <;> omega
          replace st := st.swap (show i < n by omega) (show 2 * i + 1 < n by omega) HN.out hr hg
          clear hr hg HX ms c0 hd
          go_wp2_with fail
          go_roundw
          case rel => exact ⟨2 * i + 1, _, by omega, by go_num, st, .inr ⟨hi0, hd2.out⟩⟩
          case measure => simp [intOf]; omega
        · rw [decide_eq_false hlt]
          go_wp2_with fail
          go_ret
          exact ⟨L', _, rfl, st, hd.out.ends (kids_two hlt (lt_irrefl _) hjj)⟩
    · clear c0 ml
      have HY := Lib.hid (less_any st.q.row (2 * i + 1) i (by have := HL.out; omega) (by have := HL.out; omega) HL.out.2)
      rw [show (((2 * i + 1 : Nat)) : Int) = 2 * (i : Int) + 1 by omega] at HY
      have c0 := st.q.blk.cell 0 _ rfl
      have ml := meth_less c0
      go_wp2_with fail
      refine HY.out.mono ?_
      rintro x w2 ⟨rfl, hb⟩
      replace st := st.below hb
      clear hb ml HY c0
      by_cases hlt : lt (nt L' (2 * i + 1)) (nt L' i)
      · rw [decide_eq_true hlt]
        have c0 := st.q.blk.cell 0 _ rfl
        have ms := meth_swap c0
        have HX := Lib.hid (swap_any st.q.row i (2 * i + 1) (by have := HL.out; omega) (by have := HL.out; omega) HL.out.2)
        rw [show (((2 * i + 1 : Nat)) : Int) = 2 * (i : Int) + 1 by omega] at HX
        go_wp2_with fail
        refine HX.out.mono ?_
        rintro x w3 ⟨⟨u, rfl⟩, hr, hg⟩
        have hd2 := Lib.hid (hd.out.hole.step (by have := HL.out; omega) (show 0 < 2 * i + 1 by omega) (show 2 * i + 1 < n by omega) (by first | exact par1 i | exact par2 i) hlt (fun k k0 kn kp => by rcases kid_of k0 kp with rfl | rfl; exact lt_irrefl _; omega))
        have hi0 : i0 < 2 * i + 1 := by rcases hd.out with ⟨e, _⟩ | ⟨e, _⟩ <;> omega
        replace st := st.swap (show i < n by omega) (show 2 * i + 1 < n by omega) HN.out hr hg
        clear hr hg HX ms c0 hd
        go_wp2_with fail
        go_roundw
        case rel => exact ⟨2 * i + 1, _, by omega, by go_num, st, .inr ⟨hi0, hd2.out⟩⟩
        case measure => simp [intOf]; omega
      · rw [decide_eq_false hlt]
        go_wp2_with fail
        go_ret
        exact ⟨L', _, rfl, st, hd.out.ends (kids_one (by omega) hlt)⟩
end Go.Proofs.Ytinbaepligploaa
