/- does: a call on both queues. -/
import Derived.Test.YtinbaepligploaaR3
import Derived.Test.YtinbaepligploaaR4
import Derived.Test.YtinbaepligploaaN3
namespace Go.Proofs.Ytinbaepligploaa
open Go.RowKit Go.Shelf

theorem Tr.own_any {p base n e s : Nat} {V V' : World} {v : Value} {xs : List Value} (h : Tr p V V') (hr : V.ownsRow base e s v n xs) (he : e ≠ 77) (hb : p < base) : V'.ownsRow base e s v n xs := by
  refine ⟨hr.1, ?_⟩
  rcases hr.2 with h0 | ⟨g, cap, cur, h1, h2, h3, h4⟩
  · exact .inl h0
  · refine .inr ⟨g, cap, cur, h1, h2, (h.block g (Array.getElem?_eq_some_iff.1 h3).1 (.inr ⟨by omega, ?_⟩)).trans h3, h4⟩
    intro cur' e'
    rw [h3] at e'
    injection e' with e'
    injection e' with _ e'
    exact he e'
theorem RQ.tr {V V' : World} {p q : Nat} {sl : Value} {S : List Dl} (h : RQ V q sl S) (ht : Tr p V V') (hpq : p < q) : RQ V' q sl S := ⟨ht.bk h.blk (by omega) (by decide), ht.own_any h.row (by decide) (by omega)⟩
theorem TQ.grown {V V' : World} {p q : Nat} {S : List Dl} {cs : Array Value} (h : TQ V p S) (hb : Bk V q 29 cs) (hg : V.grownBy V' (some q)) (hpq : p < q) : TQ V' p S := by
  obtain ⟨L, ⟨⟨v, hv⟩, hh⟩, hp⟩ := h
  refine ⟨L, ⟨⟨v, hv.blk.grown hg (by omega), hv.row.1, ?_⟩, hh⟩, hp⟩
  rcases hv.row.2 with h0 | ⟨g, cap, cur, h1, h2, h3, h4⟩
  · exact .inl h0
  · refine .inr ⟨g, cap, cur, h1, h2, (hg.block g (Array.getElem?_eq_some_iff.1 h3).1 (fun e => ?_)).trans h3, h4⟩
    have e' : g = q := by simpa using e
    subst e'
    rw [show V.heap[g]? = _ from hb] at h3
    injection h3 with h3
    injection h3 with _ h3
    cases h3
theorem ints_grown {V V' : World} {A : Option Addr} {zs : List Int} {q : Nat} (h : IntsAt V A zs) (hg : V.grownBy V' (some q)) (hne : ∀ ad, A = some ad → ad.block ≠ q) : IntsAt V' A zs := by
  rcases h with rfl | ⟨ad, rfl, h1, h2⟩
  · exact .inl rfl
  · exact .inr ⟨ad, rfl, Nat.lt_of_lt_of_le h1 hg.size, fun j hj => (World.cell?_of_block (a := ad.add j) (by rw [block_add]; exact hg.block ad.block h1 (fun e => hne ad rfl (by simpa using e)))).trans (h2 j hj)⟩
/-- On the way through does. -/
structure Dz (w V : World) (p q g : Nat) (cs : Array Value) (S T : List Dl) : Prop where
  box : Bk V g 32 cs
  tq : TQ V p S
  rq : ∃ sl, RQ V q sl T
  low : Below p w V
  ord : p < q ∧ q < g
section
variable {w V V' : World} {p q g : Nat} {cs : Array Value} {S T S' T' : List Dl}
theorem Dz.next (h : Dz w V p q g cs S T) (hb : Below V.heap.size V V') : Dz w V' p q g cs S T := by
  obtain ⟨sl, hr⟩ := h.rq
  exact ⟨h.box.next hb, h.tq.next hb, ⟨sl, hr.next hb⟩, h.low.trans (hb.mono (Nat.le_of_lt h.tq.lt)), h.ord⟩
theorem Dz.drew (h : Dz w V p q g cs S T) : Dz w V.drew p q g cs S T := h.next (Below.refl _ _).drew
theorem Dz.turnP (h : Dz w V p q g cs S T) (ht : TQ V' p S') (tr : Tr p V V') : Dz w V' p q g cs S' T := by
  obtain ⟨sl, hr⟩ := h.rq
  have := h.ord
  exact ⟨tr.bk h.box (by omega) (by decide), ht, ⟨sl, hr.tr tr h.ord.1⟩, low_tr h.low tr (Nat.le_of_lt h.tq.lt), h.ord⟩
theorem Dz.turnR (h : Dz w V p q g cs S T) {sl' : Value} (hr' : RQ V' q sl' T') (hg : V.grownBy V' (some q)) : Dz w V' p q g cs S T' := by
  obtain ⟨sl, hr⟩ := h.rq
  have := h.ord
  exact ⟨h.box.grown hg (by omega), h.tq.grown hr.blk hg h.ord.1, ⟨sl', hr'⟩, h.low.trans ⟨hg.os, hg.tape, hg.output, hg.size, fun i hi => hg.block i (Nat.lt_trans hi h.tq.lt) (fun e => by injection e with e; omega)⟩, h.ord⟩
theorem Dz.cells {a0 a1 a2 : Value} (h : Dz w V p q g #[a0, a1, a2] S T) : V.cell? ⟨g, 1, none⟩ = some a1 ∧ V.cell? ⟨g, 2, none⟩ = some a2 := ⟨h.box.cell 1 _ rfl, h.box.cell 2 _ rfl⟩
end
set_option maxRecDepth 100000 in
set_option maxHeartbeats 4000000 in
theorem does_set {w V0 : World} {p q g : Nat} {S : List Dl} (o id t : Int) (hg : V0.heap.size = g) (st : Dz w (V0.alloc (.cells #[.int .i64 o, .int .i64 id, .int .i64 t] 32)) p q g #[.int .i64 o, .int .i64 id, .int .i64 t] S S) (ho : Ok S) (hd : o = 0) :
    Calls Try.prog 15 #[.pointer (some ⟨p, 0, none⟩), .pointer (some ⟨q, 0, none⟩), .agg #[.int .i64 o, .int .i64 id, .int .i64 t]] V0 fun x V' => x = .returned (.bool true) ∧ Dz w V' p q g #[.int .i64 o, .int .i64 id, .int .i64 t] (setS S id t) (setS S id t) := by
  subst hg
  have t0 : (o == 0) = true := by simpa using hd
  clear hd
  have KU := Lib.hid (show ∀ V : World, Dz w V p q V0.heap.size #[.int .i64 o, .int .i64 id, .int .i64 t] S S → Calls Try.prog 21 #[.pointer (some ⟨p, 0, none⟩), .int .i64 id, .int .i64 t] V fun x V' => x = .returned (.int .i64 (setE S id t)) ∧ Dz w V' p q V0.heap.size #[.int .i64 o, .int .i64 id, .int .i64 t] (setS S id t) S from fun V h => (set_any h.tq ho id t).mono fun _ _ ⟨h1, h2, h3⟩ => ⟨h1, h.turnP h2 h3⟩)
  have KV := Lib.hid (show ∀ V : World, Dz w V p q V0.heap.size #[.int .i64 o, .int .i64 id, .int .i64 t] (setS S id t) S → Calls Try.prog 37 #[.pointer (some ⟨q, 0, none⟩), .int .i64 id, .int .i64 t] V fun x V' => x = .returned (.int .i64 (setE S id t)) ∧ Dz w V' p q V0.heap.size #[.int .i64 o, .int .i64 id, .int .i64 t] (setS S id t) (setS S id t) from fun V h => by
    obtain ⟨sl, hr⟩ := h.rq
    exact (rset_any hr ho id t).mono fun _ _ ⟨h1, sl', h2, h3⟩ => ⟨h1, h.turnR h2 h3⟩)
  generalize setE S id t = e at *
  generalize setS S id t = S' at *
  have b0 := st.box.cell 0 _ rfl
  go_enter Try.func15, Try.ntmps15
  go_wp2_with fail
  clear b0
  generalize V0.alloc (.cells #[.int .i64 o, .int .i64 id, .int .i64 t] 32) = V1 at *
  go_region_held3 (fun W => W.cell? ⟨V0.heap.size, 1, none⟩ = some (.int .i64 id) ∧ W.cell? ⟨V0.heap.size, 2, none⟩ = some (.int .i64 t))
    (first | exact st.cells | exact st.drew.cells)
    (first | (go_at_call 21; refine (KU.out _ (by first | exact st | exact st.drew)).mono ?_; clear st; rintro y wn ⟨rfl, st⟩) | (go_at_call 37; refine (KV.out _ st).mono ?_; clear st; rintro y wn ⟨rfl, st⟩))
  all_goals
    go_wp2_with fail
    go_ret
    exact ⟨by simp, st⟩
set_option maxRecDepth 100000 in
set_option maxHeartbeats 4000000 in
theorem does_cancel {w V0 : World} {p q g : Nat} {S : List Dl} (o id t : Int) (hg : V0.heap.size = g) (st : Dz w (V0.alloc (.cells #[.int .i64 o, .int .i64 id, .int .i64 t] 32)) p q g #[.int .i64 o, .int .i64 id, .int .i64 t] S S) (ho : Ok S) (hd : o = 1) :
    Calls Try.prog 15 #[.pointer (some ⟨p, 0, none⟩), .pointer (some ⟨q, 0, none⟩), .agg #[.int .i64 o, .int .i64 id, .int .i64 t]] V0 fun x V' => x = .returned (.bool true) ∧ Dz w V' p q g #[.int .i64 o, .int .i64 id, .int .i64 t] (del id S) (del id S) := by
  subst hg
  have t0 : (o == 0) = false := by simp; omega
  have t1 : (o == 1) = true := by simpa using hd
  clear hd
  have KU := Lib.hid (show ∀ V : World, Dz w V p q V0.heap.size #[.int .i64 o, .int .i64 id, .int .i64 t] S S → Calls Try.prog 23 #[.pointer (some ⟨p, 0, none⟩), .int .i64 id] V fun x V' => x = .returned (.bool (hasI id S)) ∧ Dz w V' p q V0.heap.size #[.int .i64 o, .int .i64 id, .int .i64 t] (del id S) S from fun V h => (cancel_any h.tq ho id).mono fun _ _ ⟨h1, h2, h3⟩ => ⟨h1, h.turnP h2 h3⟩)
  have KV := Lib.hid (show ∀ V : World, Dz w V p q V0.heap.size #[.int .i64 o, .int .i64 id, .int .i64 t] (del id S) S → Calls Try.prog 38 #[.pointer (some ⟨q, 0, none⟩), .int .i64 id] V fun x V' => x = .returned (.bool (hasI id S)) ∧ Dz w V' p q V0.heap.size #[.int .i64 o, .int .i64 id, .int .i64 t] (del id S) (del id S) from fun V h => by
    obtain ⟨sl, hr⟩ := h.rq
    exact (rcancel_any hr ho.len id).mono fun _ _ ⟨h1, sl', h2, h3⟩ => ⟨h1, h.turnR h2 h3⟩)
  generalize hasI id S = e at *
  generalize del id S = S' at *
  have b0 := st.box.cell 0 _ rfl
  go_enter Try.func15, Try.ntmps15
  go_wp2_with fail
  clear b0
  generalize V0.alloc (.cells #[.int .i64 o, .int .i64 id, .int .i64 t] 32) = V1 at *
  go_region_held3 (fun W => W.cell? ⟨V0.heap.size, 1, none⟩ = some (.int .i64 id) ∧ W.cell? ⟨V0.heap.size, 2, none⟩ = some (.int .i64 t))
    (first | exact st.cells | exact st.drew.cells)
    (first | (go_at_call 23; refine (KU.out _ (by first | exact st | exact st.drew)).mono ?_; clear st; rintro y wn ⟨rfl, st⟩) | (go_at_call 38; refine (KV.out _ st).mono ?_; clear st; rintro y wn ⟨rfl, st⟩))
  all_goals
    go_wp2_with fail
    go_ret
    exact ⟨by simp, st⟩
set_option maxRecDepth 100000 in
set_option maxHeartbeats 4000000 in
theorem does_due {w V0 : World} {p q g : Nat} {S : List Dl} (o id t : Int) (hg : V0.heap.size = g) (st : Dz w (V0.alloc (.cells #[.int .i64 o, .int .i64 id, .int .i64 t] 32)) p q g #[.int .i64 o, .int .i64 id, .int .i64 t] S S) (ho : Ok S) (hd : o = 2) :
    Calls Try.prog 15 #[.pointer (some ⟨p, 0, none⟩), .pointer (some ⟨q, 0, none⟩), .agg #[.int .i64 o, .int .i64 id, .int .i64 t]] V0 fun x V' => x = .returned (.bool true) ∧ Dz w V' p q g #[.int .i64 o, .int .i64 id, .int .i64 t] (leftL S t) (leftL S t) := by
  subst hg
  have t0 : (o == 0) = false := by simp; omega
  have t1 : (o == 1) = false := by simp; omega
  have t2 : (o == 2) = true := by simpa using hd
  clear hd
  have KU := Lib.hid (show ∀ V : World, Dz w V p q V0.heap.size #[.int .i64 o, .int .i64 id, .int .i64 t] S S → Calls Try.prog 22 #[.pointer (some ⟨p, 0, none⟩), .int .i64 t] V fun x V' => ∃ A ca, x = .returned (.slice A (dueL S t).length ca) ∧ IntsAt V' A ((dueL S t).map (·.1)) ∧ (∀ ad, A = some ad → ad.block ≠ q) ∧ Dz w V' p q V0.heap.size #[.int .i64 o, .int .i64 id, .int .i64 t] (leftL S t) S from fun V h => by
    have h5 := h.ord.1
    obtain ⟨sl5, hr5⟩ := h.rq
    have h6 := hr5.blk.lt
    exact ((Lq.mk h.tq ho (Below.refl p V)).due2 t).mono fun _ _ ⟨A, ca, h1, h2, h3, h4, h7⟩ => ⟨A, ca, h1, h2, fun ad e => by have := h3 ad e; omega, h.turnP h7.tq h4⟩)
  have KV := Lib.hid (show ∀ V : World, Dz w V p q V0.heap.size #[.int .i64 o, .int .i64 id, .int .i64 t] (leftL S t) S → Calls Try.prog 39 #[.pointer (some ⟨q, 0, none⟩), .int .i64 t] V fun x V' => ∃ A ca, x = .returned (.slice A (dueL S t).length ca) ∧ IntsAt V' A ((dueL S t).map (·.1)) ∧ V.grownBy V' (some q) ∧ Dz w V' p q V0.heap.size #[.int .i64 o, .int .i64 id, .int .i64 t] (leftL S t) (leftL S t) from fun V h => by
    obtain ⟨sl, hr⟩ := h.rq
    exact (rdue_any hr ho.len t).mono fun _ _ ⟨A, ca, sl', h1, h2, h3, h4⟩ => ⟨A, ca, h1, h2, h4, h.turnR h3 h4⟩)
  have HLN := Lib.hid (show ((dueL S t).map (·.1)).length = (dueL S t).length from by simp)
  have HM := Lib.hid (show (dueL S t).length ≤ maxLen from Nat.le_trans (due_le S t) (Nat.le_trans ho.len (by unfold maxLen; omega)))
  generalize (dueL S t).map (·.1) = zs at *
  generalize (dueL S t).length = n at *
  generalize leftL S t = S' at *
  have b0 := st.box.cell 0 _ rfl
  go_enter Try.func15, Try.ntmps15
  go_wp2_with fail
  clear b0
  generalize V0.alloc (.cells #[.int .i64 o, .int .i64 id, .int .i64 t] 32) = V1 at *
  go_region_held3 (fun W => W.cell? ⟨V0.heap.size, 1, none⟩ = some (.int .i64 id) ∧ W.cell? ⟨V0.heap.size, 2, none⟩ = some (.int .i64 t))
    (first | exact st.cells | exact st.drew.cells)
    (first | (go_at_call 22; refine (KU.out _ (by first | exact st | exact st.drew)).mono ?_; clear st; rintro y wn ⟨A, ca, rfl, hA, hne, st⟩) | (go_at_call 39; refine (KV.out _ st).mono ?_; clear st; rintro y wn ⟨B, cb, rfl, hB, hgr, st⟩; replace hA := ints_grown hA hgr hne; clear hgr) | (go_at_call 30; refine (same_eq A B ca cb n zs _ hA hB HLN.out HM.out).mono ?_; rintro y wn ⟨rfl, hbn⟩; replace st := st.next hbn; clear hbn hA hB))
  all_goals
    go_wp2_with fail
    go_ret
    exact ⟨rfl, st⟩
set_option maxRecDepth 100000 in
set_option maxHeartbeats 4000000 in
theorem does_none {w V0 : World} {p q g : Nat} {S : List Dl} (o id t : Int) (hg : V0.heap.size = g) (st : Dz w (V0.alloc (.cells #[.int .i64 o, .int .i64 id, .int .i64 t] 32)) p q g #[.int .i64 o, .int .i64 id, .int .i64 t] S S) (h0 : o ≠ 0) (h1 : o ≠ 1) (h2 : o ≠ 2) :
    Calls Try.prog 15 #[.pointer (some ⟨p, 0, none⟩), .pointer (some ⟨q, 0, none⟩), .agg #[.int .i64 o, .int .i64 id, .int .i64 t]] V0 fun x V' => x = .returned (.bool true) ∧ Dz w V' p q g #[.int .i64 o, .int .i64 id, .int .i64 t] S S := by
  subst hg
  have t0 : (o == 0) = false := by simpa using h0
  have t1 : (o == 1) = false := by simpa using h1
  have t2 : (o == 2) = false := by simpa using h2
  clear h0 h1 h2
  have b0 := st.box.cell 0 _ rfl
  go_enter Try.func15, Try.ntmps15
  go_wp2_with fail
  go_ret
  exact ⟨rfl, st⟩
/-- Both queues behind one call. -/
def After (S : List Dl) (o id t : Int) : List Dl := if o = 0 then setS S id t else if o = 1 then del id S else if o = 2 then leftL S t else S
theorem after_ok {S : List Dl} (h : Ok S) (o id t : Int) : Ok (After S o id t) := by
  unfold After
  split
  · exact ok_set h id t
  · split
    · exact ok_del h id
    · split
      · exact ok_left h t
      · exact h
theorem does_any {w V : World} {p q : Nat} {sl : Value} {S : List Dl} (o id t : Int) (tq : TQ V p S) (rq : RQ V q sl S) (low : Below p w V) (hpq : p < q) (ho : Ok S) :
    Calls Try.prog 15 #[.pointer (some ⟨p, 0, none⟩), .pointer (some ⟨q, 0, none⟩), .agg #[.int .i64 o, .int .i64 id, .int .i64 t]] V fun x V' => x = .returned (.bool true) ∧ TQ V' p (After S o id t) ∧ (∃ sl', RQ V' q sl' (After S o id t)) ∧ Below p w V' := by
  have hb := below_alloc V (.cells #[.int .i64 o, .int .i64 id, .int .i64 t] 32)
  have hq := rq.blk.lt
  have st : Dz w (V.alloc (.cells #[.int .i64 o, .int .i64 id, .int .i64 t] 32)) p q V.heap.size #[.int .i64 o, .int .i64 id, .int .i64 t] S S := ⟨Bk.new _ _ _, tq.next hb, ⟨sl, rq.next hb⟩, low.trans (hb.mono (Nat.le_of_lt tq.lt)), hpq, hq⟩
  unfold After
  by_cases h0 : o = 0
  · rw [if_pos h0]
    exact (does_set o id t rfl st ho h0).mono fun _ _ ⟨h1, h2⟩ => ⟨h1, h2.tq, h2.rq, h2.low⟩
  · rw [if_neg h0]
    by_cases h1 : o = 1
    · rw [if_pos h1]
      exact (does_cancel o id t rfl st ho h1).mono fun _ _ ⟨h1, h2⟩ => ⟨h1, h2.tq, h2.rq, h2.low⟩
    · rw [if_neg h1]
      by_cases h2 : o = 2
      · rw [if_pos h2]
        exact (does_due o id t rfl st ho h2).mono fun _ _ ⟨h1, h2⟩ => ⟨h1, h2.tq, h2.rq, h2.low⟩
      · rw [if_neg h2]
        exact (does_none o id t rfl st h0 h1 h2).mono fun _ _ ⟨h1, h2⟩ => ⟨h1, h2.tq, h2.rq, h2.low⟩
end Go.Proofs.Ytinbaepligploaa
