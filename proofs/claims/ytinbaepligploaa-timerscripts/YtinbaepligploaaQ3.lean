/- Calls through heap's interface; up, down. -/
import Derived.Test.YtinbaepligploaaQ2
namespace Go.Proofs.Ytinbaepligploaa
open Go.RowKit Go.Shelf

/-- The queue's line as heap's interface. -/
abbrev ifc (p : Nat) : Value := .iface 79 (.pointer (some ⟨p, 0, none⟩))
theorem meth_len0 (a : Addr) (V : World) : Sem.run Try.prog (method 217 79 (.pointer (some a)) "Len") V = Sem.run Try.prog (loadVar 72 a >>= fun v => pure (73, v)) V := by kernel_rfl
theorem meth_less0 (a : Addr) (V : World) : Sem.run Try.prog (method 217 79 (.pointer (some a)) "Less") V = Sem.run Try.prog (loadVar 72 a >>= fun v => pure (74, v)) V := by kernel_rfl
theorem meth_swap0 (a : Addr) (V : World) : Sem.run Try.prog (method 217 79 (.pointer (some a)) "Swap") V = Sem.run Try.prog (loadVar 72 a >>= fun v => pure (75, v)) V := by kernel_rfl
theorem load72 {V : World} {a : Addr} {v : Value} (h : V.cell? a = some v) : Sem.run Try.prog (loadVar 72 a) V = .ok v V := by
  have := Try.underlying72
  simp [go_sem, h]
theorem len_any (A : Option Addr) (n cap : Nat) (V : World) : Calls Try.prog 73 #[.slice A n cap] V fun x V' => x = .returned (.int .i64 (n : Int)) ∧ V = V' := by
  go_enter Try.func73, Try.ntmps73
  go_wp2_with fail
  go_ret
  exact ⟨rfl, rfl⟩
theorem meth_len {V : World} {a : Addr} {v : Value} (h : V.cell? a = some v) : Sem.run Try.prog (method 217 79 (.pointer (some a)) "Len") V = .ok (73, v) V := by
  rw [meth_len0, Sem.run_bind, load72 h]; rfl
theorem meth_less {V : World} {a : Addr} {v : Value} (h : V.cell? a = some v) : Sem.run Try.prog (method 217 79 (.pointer (some a)) "Less") V = .ok (74, v) V := by
  rw [meth_less0, Sem.run_bind, load72 h]; rfl
theorem meth_swap {V : World} {a : Addr} {v : Value} (h : V.cell? a = some v) : Sem.run Try.prog (method 217 79 (.pointer (some a)) "Swap") V = .ok (75, v) V := by
  rw [meth_swap0, Sem.run_bind, load72 h]; rfl

/-- The line turned in place. -/
structure In (p g cap n : Nat) (L : List Dl) (V wr : World) (L' : List Dl) : Prop where
  q : QAt wr p (.slice (some ⟨g, 0, none⟩) L'.length cap) L'
  len : L'.length = L.length
  perm : L'.Perm L
  drop : L'.drop n = L.drop n
  gr : V.grownBy wr (some g)
theorem In.start {p g cap n : Nat} {L : List Dl} {V : World} (h : QAt V p (.slice (some ⟨g, 0, none⟩) L.length cap) L) : In p g cap n L V V L := ⟨h, rfl, List.Perm.refl _, rfl, ⟨rfl, rfl, rfl, Nat.le_refl _, fun _ _ _ => rfl⟩⟩
theorem QAt.ne {p g cap : Nat} {L : List Dl} {V : World} (h : QAt V p (.slice (some ⟨g, 0, none⟩) L.length cap) L) : p < g := by
  rcases h.row.2 with ⟨e, _⟩ | ⟨g', cap', cur, e, hb, _⟩
  · cases e
  · cases e; omega
theorem In.below {p g cap n : Nat} {L L' : List Dl} {V wr wr' : World} (h : In p g cap n L V wr L') (hb : Below wr.heap.size wr wr') : In p g cap n L V wr' L' :=
  ⟨h.q.next hb, h.len, h.perm, h.drop, ⟨hb.os.trans h.gr.os, hb.tape.trans h.gr.tape, hb.output.trans h.gr.output, Nat.le_trans h.gr.size hb.size, fun i hi hne => (hb.block i (Nat.lt_of_lt_of_le hi h.gr.size)).trans (h.gr.block i hi hne)⟩⟩
theorem In.swap {p g cap n i j : Nat} {L L' : List Dl} {V wr wr' : World} (h : In p g cap n L V wr L') (hi : i < n) (hj : j < n) (hn : n ≤ L.length) (hr : Row wr' p (.slice (some ⟨g, 0, none⟩) L'.length cap) (sw L' i j)) (hg : wr.grownBy wr' (some g)) : In p g cap n L V wr' (sw L' i j) := by
  have hl := h.len
  have hne := h.q.ne
  refine ⟨⟨?_, ?_⟩, (sw_len _ _ _).trans hl, (sw_perm (by omega) (by omega)).trans h.perm, (sw_drop hi hj).trans h.drop, grown_trans h.gr hg⟩
  · rw [sw_len]; exact h.q.blk.grown hg (by omega)
  · rw [sw_len]; exact hr
set_option maxRecDepth 100000 in
set_option maxHeartbeats 4000000 in
theorem up_any {V : World} {p g cap : Nat} {L : List Dl} (h : QAt V p (.slice (some ⟨g, 0, none⟩) L.length cap) L) (n j : Nat) (hj : j < n) (hn : n ≤ L.length) (hm : L.length ≤ 1000) (hu : UpInv n j L) :
    Calls Try.prog 55 #[ifc p, .int .i64 (j : Int)] V fun x V' => (∃ u, x = .returned u) ∧ ∃ L', In p g cap n L V V' L' ∧ Heap n L' := by
  have st := In.start (n := n) h
  have HN := Lib.hid hn
  have HM := Lib.hid hm
  have hn1 : n ≤ 1000 := by omega
  clear h hn hm
  go_enter Try.func55, Try.ntmps55
  go_wp2_with fail
  go_loopw [1] (fun jv wr => ∃ (j : Nat) (L' : List Dl), j < n ∧ jv = .int .i64 (j : Int) ∧ In p g cap n L V wr L' ∧ UpInv n j L') (fun jv _ => (intOf jv).toNat)
  case atStart => exact ⟨j, L, hj, rfl, st, hu⟩
  case round =>
    clear hj hu st
    obtain ⟨j, L', hj, rfl, st, hu⟩ := hrel
    have c0 := st.q.blk.cell 0 _ rfl
    by_cases j0 : j = 0
    · subst j0
      go_wp2_with fail
      go_end0
      exact ⟨⟨_, rfl⟩, L', st, hu.top⟩
    · have hp := par_lt (show 0 < j by omega)
      have hq : ((j : Int) - 1).tdiv 2 = ((par j : Nat) : Int) := by
        unfold par
        rw [show ((j : Int) - 1) = ((j - 1 : Nat) : Int) by omega]
        exact (Int.ofNat_tdiv (j - 1) 2)
      have HL : Hid (j < L'.length ∧ par j < L'.length ∧ L'.length ≤ 1000) := Lib.hid (by have := st.len; have := HN.out; have := HM.out; omega)
      have HX := Lib.hid (less_any st.q.row j (par j) HL.out.1 HL.out.2.1 HL.out.2.2)
      have ml := meth_less c0
      have hne : (((par j : Nat) : Int) == (j : Int)) = false := by simp; omega
      go_wp2_with fail
      refine HX.out.mono ?_
      rintro x w1 ⟨rfl, hb⟩
      replace st := st.below hb
      clear hb ml HX c0
      by_cases hlt : lt (nt L' j) (nt L' (par j))
      · rw [decide_eq_true hlt]
        have c0 := st.q.blk.cell 0 _ rfl
        have ms := meth_swap c0
        have HX := Lib.hid (swap_any st.q.row (par j) j HL.out.2.1 HL.out.1 HL.out.2.2)
        go_wp2_with fail
        refine HX.out.mono ?_
        rintro x w2 ⟨⟨u, rfl⟩, hr, hg⟩
        replace st := st.swap (by omega) hj HN.out hr hg
        clear hr hg HX ms c0
        have hu2 := Lib.hid (hu.step (by omega) hj (Nat.le_trans HN.out (by have := HL.out; have := HN.out; rw [← st.len, sw_len]; omega)) hlt)
        go_wp2_with fail
        go_roundw
        case rel => exact ⟨par j, _, by omega, rfl, st, hu2.out⟩
        case measure => simp [intOf]; omega
      · rw [decide_eq_false hlt]
        go_wp2_with fail
        go_end0
        exact ⟨⟨_, rfl⟩, L', st, hu.done hlt⟩
end Go.Proofs.Ytinbaepligploaa
