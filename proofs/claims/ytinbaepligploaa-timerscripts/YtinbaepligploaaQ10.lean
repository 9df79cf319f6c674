/- The timer's Due; of nil. -/
import Derived.Test.YtinbaepligploaaQ9
namespace Go.Proofs.Ytinbaepligploaa
open Go.RowKit Go.Shelf
attribute [local go_sem] assert_two assert_one

theorem Tr.own {p base n : Nat} {V V' : World} {v : Value} {xs : List Value} (h : Tr p V V') (hr : V.ownsRow base 3 1 v n xs) (hb : p < base) : V'.ownsRow base 3 1 v n xs := by
  refine ⟨hr.1, ?_⟩
  rcases hr.2 with h0 | ⟨g, cap, cur, h1, h2, h3, h4⟩
  · exact .inl h0
  · refine .inr ⟨g, cap, cur, h1, h2, (h.block g (Array.getElem?_eq_some_iff.1 h3).1 (.inr ⟨by omega, ?_⟩)).trans h3, h4⟩
    intro cur' e
    rw [h3] at e
    injection e with e
    injection e with _ e
    cases e
theorem tpop_any {V : World} {p : Nat} {S : List Dl} {d : Dl} (h : TQ V p (d :: S)) (ho : Ok (d :: S)) :
    Calls Try.prog 44 #[ifc p] V fun x V' => x = .returned (.iface 77 (.agg #[.int .i64 d.1, .int .i64 d.2])) ∧ TQ V' p S ∧ Tr p V V' := by
  obtain ⟨L, hq, hp⟩ := h
  have hl := hp.length_eq
  have h256 := ho.len
  have e0 : nt L 0 = d := hq.2.head hp ho.srt
  simp at hl h256
  refine (pop_any hq S.length (by omega) (by omega)).mono ?_
  rintro x V' ⟨rfl, L', hq', hp', ht⟩
  rw [e0] at hp' ⊢
  exact ⟨rfl, ⟨L', hq', List.Perm.cons_inv ((List.perm_append_singleton d L').symm.trans (hp'.trans hp))⟩, ht⟩
theorem Ok.tail {d : Dl} {S : List Dl} (h : Ok (d :: S)) : Ok S := ⟨h.srt.2, h.ids.2, by have := h.len; simp at this; omega⟩
/-- What Due tells. -/
def DueP (V : World) (p : Nat) (S : List Dl) (now : Int) (x : Ending) (V' : World) : Prop :=
  ∃ v, x = .returned v ∧ V'.ownsRow V.heap.size 3 1 v (dueL S now).length (iv ((dueL S now).map (·.1))) ∧ TQ V' p (leftL S now) ∧ Tr p V V'
/-- Where Due stands. -/
structure DuAt (V wr : World) (p : Nat) (S : List Dl) (now : Int) (o : Value) (out S' : List Dl) : Prop where
  tq : TQ wr p S'
  ok : Ok S'
  row : wr.ownsRow V.heap.size 3 1 o out.length (iv (out.map (·.1)))
  due : dueL S now = out ++ dueL S' now
  left : leftL S now = leftL S' now
  tr : Tr p V wr
  len : out.length + S'.length = S.length
theorem Tr.more {p : Nat} {V W w1 : World} (h : Tr p V W) (hb : Below V.heap.size W w1) : Tr p V w1 := ⟨hb.os.trans h.os, hb.tape.trans h.tape, hb.output.trans h.output, Nat.le_trans h.size hb.size, fun i hi hc => (hb.block i hi).trans (h.block i hi hc)⟩
/-- Numbers appended elsewhere leave the queue alone. -/
theorem TQ.keep {W w1 : World} {n₀ k p e : Nat} {o : Value} {xs : List Value} {tmp : Obj} {S : List Dl} {size : Nat} (h : TQ W p S) (hrow : W.ownsRow n₀ e size o k xs) (he : e ≠ 77) (hp : p < n₀) (hgrow : (W.alloc tmp).grownBy w1 o.ownBlock) : TQ w1 p S := by
  obtain ⟨L, ⟨⟨v, hv⟩, hh⟩, hperm⟩ := h
  have hb := below_alloc W tmp
  have hv2 := hv.next hb
  have hrow' := own_next hrow hb
  have key : ∀ i, some i = o.ownBlock → ∃ cur, (W.alloc tmp).heap[i]? = some (.cells cur e (0, 0)) ∧ n₀ ≤ i := by
    intro i ei
    rcases hrow'.2 with ⟨rfl, _⟩ | ⟨g, cap, cur, rfl, h2, h3, _⟩
    · cases ei
    · obtain rfl : i = g := by simpa [Value.ownBlock] using ei
      exact ⟨cur, h3, h2⟩
  refine ⟨L, ⟨⟨v, ?_, ?_⟩, hh⟩, hperm⟩
  · exact (hgrow.block p hv2.lt (fun ei => by obtain ⟨_, _, h2⟩ := key p ei; omega)).trans hv2.blk
  · refine ⟨hv2.row.1, ?_⟩
    rcases hv2.row.2 with h0 | ⟨g, cap, cur, h1, h2, h3, h4⟩
    · exact .inl h0
    · refine .inr ⟨g, cap, cur, h1, h2, (hgrow.block g (Array.getElem?_eq_some_iff.1 h3).1 (fun ei => ?_)).trans h3, h4⟩
      obtain ⟨cur', h5, _⟩ := key g ei
      rw [h3] at h5
      injection h5 with h5
      injection h5 with _ h5
      exact he h5.symm
set_option maxRecDepth 100000 in
set_option maxHeartbeats 4000000 in
theorem due_any {V : World} {p : Nat} {S : List Dl} (h : TQ V p S) (ho : Ok S) (now : Int) : Calls Try.prog 22 #[.pointer (some ⟨p, 0, none⟩), .int .i64 now] V (DueP V p S now) := by
  obtain ⟨i0, hi, hz0, hz1, hz2⟩ := info_parts info3
  have hp := h.lt
  have h256 := ho.len
  have st : DuAt V V p S now (.slice none 0 0) [] S := ⟨h, ho, World.ownsRow_nil _ _ _ _, by simp, rfl, Tr.refl _ _, by simp⟩
  clear h ho
  go_enter Try.func22, Try.ntmps22
  go_wp2_with fail
  go_loopw [5] (fun o wr => ∃ out S' cnt, DuAt V wr p S now o out S' ∧ cnt = S'.length ∧ out.length ≤ 256) (fun o _ => 300 - (match o with | .slice _ n _ => n | _ => 0))
  case atStart => exact ⟨[], S, _, st, rfl, by simp⟩
  case round =>
    clear st
    obtain ⟨out, S', cnt, st, -, hout⟩ := hrel
    obtain ⟨A, cap, rfl⟩ := own_form st.row
    cases S' with
    | nil =>
      have K := Lib.hid (show Calls Try.prog 18 #[.pointer (some ⟨p, 0, none⟩)] wr fun x V' => x = .returned (.tuple #[.int .i64 0, .int .i64 0, .bool false]) ∧ Below wr.heap.size wr V' from next_any st.tq st.ok)
      go_wp2_with fail
      refine K.out.mono ?_
      rintro x w2 ⟨rfl, hb⟩
      go_wp2_with fail
      go_ret
      have e1 : dueL S now = out := by rw [st.due]; simp [dueL]
      have e2 : leftL S now = [] := by rw [st.left]; simp [leftL]
      exact ⟨_, rfl, by rw [e1]; exact own_next st.row hb, by rw [e2]; exact st.tq.next hb, st.tr.trans (Tr.of_below hb)⟩
    | cons d S' =>
      have K := Lib.hid (show Calls Try.prog 18 #[.pointer (some ⟨p, 0, none⟩)] wr fun x V' => x = .returned (.tuple #[.int .i64 d.1, .int .i64 d.2, .bool true]) ∧ Below wr.heap.size wr V' from next_any st.tq st.ok)
      go_wp2_with fail
      refine K.out.mono ?_
      rintro x w2 ⟨rfl, hb⟩
      clear K
      by_cases hd : d.2 ≤ now
      · have st2 : DuAt V w2 p S now (.slice A out.length cap) out (d :: S') := ⟨st.tq.next hb, st.ok, own_next st.row hb, st.due, st.left, st.tr.trans (Tr.of_below hb), st.len⟩
        clear st hb
        have K := Lib.hid (tpop_any st2.tq st2.ok)
        have hln := st2.len
        simp at hln
        go_wp2_with fail
        refine K.out.mono ?_
        rintro x w3 ⟨rfl, tq3, t3⟩
        have row3 := own_next (t3.own st2.row hp) (below_alloc w3 (.cells #[.int .i64 d.1, .int .i64 d.2] 77))
        have tq4 := tq3.next (below_alloc w3 (.cells #[.int .i64 d.1, .int .i64 d.2] 77))
        have t4 := (st2.tr.trans t3).trans (Tr.of_below (below_alloc w3 (.cells #[.int .i64 d.1, .int .i64 d.2] 77)))
        have HSZ := Lib.hid t4.size
        have HST := Lib.hid st2
        clear K tq3 t3 st2
        go_wp2_with (at_builtin; refine wpList_append_own _ rfl _ _ 39 rfl V.heap.size 3 i0 (.int .i64 0) 1 8 Try.underlying39 hi hz0 hz1 hz2 rfl (by decide) _ _ _ rfl (row3.alloc _) ⟨(w3.alloc (.cells #[.int .i64 d.1, .int .i64 d.2] 77)).heap.size, 0, none⟩ 1 1 [.int .i64 d.1] (by simp [go_sem]) rfl (cell_one_new _ _ _) (by simp [Value.oneCell']) (by unfold maxLen; omega) (by omega) (by have := HSZ.out; simp at this ⊢; omega) ?_; intro v' w5 hown' hgrow _; obtain ⟨g', cap', rfl⟩ := ownsRow_succ hown')
        go_roundw
        case rel =>
          refine ⟨out ++ [d], S', _, ⟨tq4.keep row3 (by decide) hp hgrow, HST.out.ok.tail, ?_, ?_, ?_, t4.more (appended_below row3 HSZ.out hgrow), ?_⟩, rfl, ?_⟩
          · rw [List.map_append, List.length_append]
            have : iv (out.map (·.1) ++ [d].map (·.1)) = iv (out.map (·.1)) ++ [.int .i64 d.1] := by simp [iv]
            rw [this]
            exact hown'
          · rw [HST.out.due, due_head hd]; simp
          · rw [HST.out.left, left_head hd]
          · have := HST.out.len; simp at this ⊢; omega
          · simp; omega
        case measure => simp; omega
      · have hn := due_none st.ok.srt hd
        go_wp2_with fail
        go_ret
        exact ⟨_, rfl, by rw [st.due, hn.1, List.append_nil]; exact own_next st.row hb, by rw [st.left, hn.2]; exact st.tq.next hb, st.tr.trans (Tr.of_below hb)⟩
end Go.Proofs.Ytinbaepligploaa
