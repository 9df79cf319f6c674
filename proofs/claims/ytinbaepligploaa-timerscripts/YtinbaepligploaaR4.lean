/- The document's queue: Due. -/
import Derived.Test.YtinbaepligploaaR2
namespace Go.Proofs.Ytinbaepligploaa
open Go.RowKit Go.Shelf

/-- An append onto one slice leaves another of another type. -/
theorem own_keep {W w1 : World} {B B' e e' s s' k k' : Nat} {o o' : Value} {xs ys : List Value} {tmp : Obj} (h : W.ownsRow B e s o k xs) (h' : W.ownsRow B' e' s' o' k' ys) (he : e ≠ e') (hgrow : (W.alloc tmp).grownBy w1 o.ownBlock) : w1.ownsRow B' e' s' o' k' ys := by
  have hb := below_alloc W tmp
  have a1 := own_next h hb
  have a2 := own_next h' hb
  refine ⟨a2.1, ?_⟩
  rcases a2.2 with h0 | ⟨g, cap, cur, h1, h2, h3, h4⟩
  · exact .inl h0
  · refine .inr ⟨g, cap, cur, h1, h2, (hgrow.block g (Array.getElem?_eq_some_iff.1 h3).1 (fun ei => ?_)).trans h3, h4⟩
    rcases a1.2 with ⟨rfl, _⟩ | ⟨g5, cap5, cur5, rfl, _, h5, _⟩
    · cases ei
    · have e9 : g = g5 := by simpa [Value.ownBlock] using ei
      subst e9
      rw [h3] at h5
      injection h5 with h5
      injection h5 with _ h5
      exact he h5.symm
/-- Where the document's Due stands. -/
structure Rd (V wr : World) (q : Nat) (sl ov lv : Value) (S P : List Dl) (now : Int) : Prop where
  out : wr.ownsRow V.heap.size 3 1 ov (dueL P now).length (iv ((dueL P now).map (·.1)))
  left : wr.ownsRow V.heap.size 52 2 lv (leftL P now).length (rRow (leftL P now))
  low : Below V.heap.size V wr
theorem due_snoc_in {P : List Dl} {d : Dl} {now : Int} (h : d.2 ≤ now) : dueL (P ++ [d]) now = dueL P now ++ [d] ∧ leftL (P ++ [d]) now = leftL P now := by
  have h' : ¬now < d.2 := by omega
  simp [dueL, leftL, h, h']
theorem due_snoc_out {P : List Dl} {d : Dl} {now : Int} (h : ¬d.2 ≤ now) : dueL (P ++ [d]) now = dueL P now ∧ leftL (P ++ [d]) now = leftL P now ++ [d] := by
  have h' : now < d.2 := by omega
  simp [dueL, leftL, h, h']
theorem due_take_len (S : List Dl) (now : Int) (k : Nat) : (dueL (S.take k) now).length ≤ k ∧ (leftL (S.take k) now).length ≤ k :=
  ⟨Nat.le_trans (List.length_filter_le _ _) (by rw [List.length_take]; omega), Nat.le_trans (List.length_filter_le _ _) (by rw [List.length_take]; omega)⟩
/-- What the document's Due tells. -/
def RDue (V : World) (q : Nat) (S : List Dl) (now : Int) (x : Ending) (V' : World) : Prop :=
  ∃ A ca sl', x = .returned (.slice A (dueL S now).length ca) ∧ IntsAt V' A ((dueL S now).map (·.1)) ∧ RQ V' q sl' (leftL S now) ∧ V.grownBy V' (some q)
set_option maxRecDepth 100000 in
set_option maxHeartbeats 4000000 in
theorem rdue_any {V : World} {q : Nat} {sl : Value} {S : List Dl} (h : RQ V q sl S) (ho : S.length ≤ 256) (now : Int) : Calls Try.prog 39 #[.pointer (some ⟨q, 0, none⟩), .int .i64 now] V (RDue V q S now) := by
  obtain ⟨i0, hi, hz0, hz1, hz2⟩ := info_parts info3
  obtain ⟨j0, hj, hy0, hy1, hy2⟩ := info_parts info52
  obtain ⟨A, cap, rfl⟩ := own_form h.row
  have HR := Lib.hid h
  have hqlt := h.blk.lt
  obtain ⟨n, hn⟩ : ∃ n, n = S.length := ⟨_, rfl⟩
  have h256 : n ≤ 256 := by omega
  replace hn := Lib.hid hn
  rw [← hn.out] at HR
  clear h ho
  go_enter Try.func39, Try.ntmps39
  go_wp2_with fail
  go_loopw [5, 6, 7] (fun ov lv iv wr => ∃ k : Nat, k ≤ n ∧ iv = .int .i64 (k : Int) ∧ Rd V wr q (.slice A n cap) ov lv S (S.take k) now) (fun _ _ iv _ => n - (intOf iv).toNat)
  case atStart => exact ⟨0, Nat.zero_le _, rfl, World.ownsRow_nil _ _ _ _, World.ownsRow_nil _ _ _ _, Below.refl _ _⟩
  case round =>
    obtain ⟨k, hk, rfl, st⟩ := hrel
    obtain ⟨A2, cap2, rfl⟩ := own_form st.out
    obtain ⟨A3, cap3, rfl⟩ := own_form st.left
    have hsz := st.low.size
    have c0 := (HR.out.blk.next st.low).cell 0 _ rfl
    by_cases hlt : k < n
    · obtain ⟨g, cap', e, d0, d1⟩ := rrow_at (own_next HR.out.row st.low) (k := k) (by rw [← hn.out]; exact hlt)
      injection e with e1 e2 e3
      subst e1 e3
      clear e2
      have HT := Lib.hid (take_snoc (nt_get (L := S) (i := k) (by rw [← hn.out]; exact hlt)))
      obtain ⟨hl1, hl2⟩ := due_take_len S now k
      generalize nt S k = d at *
      have i2 : (0 : Int) ≤ (k : Int) := by omega
      have i3 : (k : Int) < (n : Int) := by omega
      by_cases hd : d.2 ≤ now
      · have e5 := Lib.hid (due_snoc_in (P := S.take k) hd)
        generalize S.take k = P at *
        go_wp2_with (at_builtin; refine wpList_append_own _ rfl _ _ 39 rfl V.heap.size 3 i0 (.int .i64 0) 1 8 Try.underlying39 hi hz0 hz1 hz2 rfl (by decide) _ _ _ rfl (st.out.alloc _) _ 1 1 [.int .i64 d.1] rfl rfl (cell_one_new _ _ _) (by simp [Value.oneCell']) (by unfold maxLen; omega) (by omega) (by simp; omega) ?_; intro v6 w6 hown6 hgrow6 _; obtain ⟨g6, cap6, rfl⟩ := ownsRow_succ hown6; have hb6 := appended_below st.out hsz hgrow6)
        go_roundw
        case rel =>
          refine ⟨k + 1, by omega, by go_num, ?_, ?_, st.low.trans hb6⟩
          · rw [HT.out, e5.out.1, List.map_append, List.length_append]
            have e7 : iv ((dueL P now).map (·.1) ++ [d].map (·.1)) = iv ((dueL P now).map (·.1)) ++ [.int .i64 d.1] := by simp [iv]
            rw [e7]
            exact hown6
          · rw [HT.out, e5.out.2]
            exact own_keep st.out st.left (by decide) hgrow6
        case measure => simp [intOf]; omega
      · have e5 := Lib.hid (due_snoc_out (P := S.take k) hd)
        generalize S.take k = P at *
        go_wp2_with (at_builtin; refine wpList_append_own _ rfl _ _ 27 rfl V.heap.size 52 j0 (.agg #[.int .i64 0, .int .i64 0]) 2 16 Try.underlying27 hj hy0 hy1 hy2 rfl (by decide) _ _ _ rfl (st.left.alloc _) _ 1 1 [.int .i64 d.2, .int .i64 d.1] rfl rfl (cells2_new _ _ _ _) (by simp [Value.oneCell']) (by unfold maxLen; omega) (by omega) (by simp; omega) ?_; intro v6 w6 hown6 hgrow6 _; obtain ⟨g6, cap6, rfl⟩ := ownsRow_succ hown6; have hb6 := appended_below st.left hsz hgrow6)
        go_roundw
        case rel =>
          refine ⟨k + 1, by omega, by go_num, ?_, ?_, st.low.trans hb6⟩
          · rw [HT.out, e5.out.1]
            exact own_keep st.left st.out (by decide) hgrow6
          · rw [HT.out, e5.out.2, rRow_snoc, List.length_append]
            exact hown6
        case measure => simp [intOf]; omega
    · obtain rfl : k = n := by omega
      have eT : S.take k = S := by rw [hn.out, List.take_length]
      rw [eT] at st ⊢
      clear eT
      have f0 := (HR.out.blk.next st.low).frozen 0
      obtain ⟨z1, z2⟩ := HR.out.laid st.low st.left
      have HZ1 := Lib.hid z1
      have HZ2 := Lib.hid z2
      have HO := Lib.hid (ownsRow_setCell_below (Joins.ownsRow_le st.out (show q + 1 ≤ V.heap.size by omega)) (show (⟨q, 0, none⟩ : Addr).block < q + 1 by simp) (.slice A3 (leftL S now).length cap3))
      clear z1 z2
      go_wp2_with fail
      go_ret
      exact ⟨A2, cap2, _, rfl, ints_iv (by simp) HO.out, HZ1.out, HZ2.out⟩
end Go.Proofs.Ytinbaepligploaa
