/- The timer of nil; live. -/
import Derived.Test.YtinbaepligploaaQ10
namespace Go.Proofs.Ytinbaepligploaa
open Go.RowKit Go.Shelf
attribute [local go_sem] assert_two assert_one

theorem tlen_nil (V : World) : Calls Try.prog 20 #[.pointer none] V fun x V' => x = .returned (.int .i64 0) ∧ V = V' := by
  go_enter Try.func20, Try.ntmps20
  go_wp2_with fail
  go_ret
  exact ⟨rfl, rfl⟩
set_option maxRecDepth 100000 in
theorem next_nil (V : World) : Calls Try.prog 18 #[.pointer none] V fun x V' => x = .returned (.tuple #[.int .i64 0, .int .i64 0, .bool false]) ∧ V = V' := by
  go_enter Try.func18, Try.ntmps18
  go_wp2_with fail
  refine (tlen_nil _).mono ?_
  rintro x w2 ⟨rfl, rfl⟩
  go_wp2_with fail
  exact bodyPost_ret (v := .tuple #[.int .i64 0, .int .i64 0, .bool false]) (by simp [results, Try.results18, go_sem]) rfl ⟨rfl, rfl⟩
set_option maxRecDepth 100000 in
theorem at_nil (id : Int) (V : World) : Calls Try.prog 16 #[.pointer none, .int .i64 id] V fun x V' => x = .returned (.tuple #[.int .i64 0, .bool false]) ∧ V = V' := by
  go_enter Try.func16, Try.ntmps16
  go_wp2_with fail
  exact bodyPost_ret (v := .tuple #[.int .i64 0, .bool false]) (by simp [results, Try.results16, go_sem]) rfl ⟨rfl, rfl⟩
set_option maxRecDepth 100000 in
theorem cancel_nil (id : Int) (V : World) : Calls Try.prog 23 #[.pointer none, .int .i64 id] V fun x V' => x = .returned (.bool false) ∧ V = V' := by
  go_enter Try.func23, Try.ntmps23
  go_wp2_with fail
  go_ret
  exact ⟨rfl, rfl⟩
set_option maxRecDepth 100000 in
theorem set_nil (id t : Int) (V : World) : Calls Try.prog 21 #[.pointer none, .int .i64 id, .int .i64 t] V fun x V' => x = .returned (.int .i64 1) ∧ V = V' := by
  go_enter Try.func21, Try.ntmps21
  go_wp2_with fail
  go_ret
  exact ⟨rfl, rfl⟩
set_option maxRecDepth 100000 in
theorem due_nil (now : Int) (V : World) : Calls Try.prog 22 #[.pointer none, .int .i64 now] V fun x V' => x = .returned (.slice none 0 0) ∧ V = V' := by
  go_enter Try.func22, Try.ntmps22
  go_wp2_with fail
  go_loopw [5] (fun o wr => o = .slice none 0 0 ∧ V = wr) (fun _ _ => 0)
  case atStart => exact ⟨rfl, rfl⟩
  case round =>
    obtain ⟨rfl, rfl⟩ := hrel
    go_wp2_with fail
    refine (next_nil _).mono ?_
    rintro x w2 ⟨rfl, rfl⟩
    go_wp2_with fail
    go_ret
    exact ⟨rfl, rfl⟩

theorem low_tr {p : Nat} {w V V' : World} (h : Below p w V) (k : Tr p V V') (hp : p ≤ V.heap.size) : Below p w V' := h.trans (k.below hp)
/-- A queue that was made here. -/
structure Lq (w V : World) (p : Nat) (S : List Dl) : Prop where
  tq : TQ V p S
  ok : Ok S
  low : Below p w V
section
variable {w V V' : World} {p : Nat} {S : List Dl}
theorem Lq.next (h : Lq w V p S) (hb : Below V.heap.size V V') : Lq w V' p S := ⟨h.tq.next hb, h.ok, h.low.trans (hb.mono (Nat.le_of_lt h.tq.lt))⟩
theorem Lq.set (h : Lq w V p S) (id t : Int) : Calls Try.prog 21 #[.pointer (some ⟨p, 0, none⟩), .int .i64 id, .int .i64 t] V fun x V' => x = .returned (.int .i64 (setE S id t)) ∧ Lq w V' p (setS S id t) :=
  (set_any h.tq h.ok id t).mono fun _ _ ⟨h1, h2, h3⟩ => ⟨h1, h2, ok_set h.ok id t, low_tr h.low h3 (Nat.le_of_lt h.tq.lt)⟩
theorem Lq.cancel (h : Lq w V p S) (id : Int) : Calls Try.prog 23 #[.pointer (some ⟨p, 0, none⟩), .int .i64 id] V fun x V' => x = .returned (.bool (hasI id S)) ∧ Lq w V' p (del id S) :=
  (cancel_any h.tq h.ok id).mono fun _ _ ⟨h1, h2, h3⟩ => ⟨h1, h2, ok_del h.ok id, low_tr h.low h3 (Nat.le_of_lt h.tq.lt)⟩
theorem Lq.nxt (h : Lq w V p S) : Calls Try.prog 18 #[.pointer (some ⟨p, 0, none⟩)] V fun x V' => x = .returned (nextV S) ∧ Lq w V' p S :=
  (next_any h.tq h.ok).mono fun _ _ ⟨h1, h2⟩ => ⟨h1, h.next h2⟩
theorem Lq.at_ (h : Lq w V p S) (id : Int) : Calls Try.prog 16 #[.pointer (some ⟨p, 0, none⟩), .int .i64 id] V fun x V' => x = .returned (atV S id) ∧ Lq w V' p S :=
  (at_any h.tq h.ok id).mono fun _ _ ⟨h1, h2⟩ => ⟨h1, h.next h2⟩
theorem Lq.len (h : Lq w V p S) : Calls Try.prog 20 #[.pointer (some ⟨p, 0, none⟩)] V fun x V' => x = .returned (.int .i64 (S.length : Int)) ∧ V = V' := tlen_any h.tq
/-- What Due tells, in a slice. -/
theorem Lq.due (h : Lq w V p S) (now : Int) : Calls Try.prog 22 #[.pointer (some ⟨p, 0, none⟩), .int .i64 now] V fun x V' => ∃ A ca, x = .returned (.slice A (dueL S now).length ca) ∧ IntsAt V' A ((dueL S now).map (·.1)) ∧ Tr p V V' ∧ Lq w V' p (leftL S now) :=
  (due_any h.tq h.ok now).mono fun _ V' ⟨v, h1, h2, h3, h4⟩ => by
    obtain ⟨A, ca, rfl⟩ := own_form h2
    exact ⟨A, ca, h1, ints_iv (by simp) h2, h4, h3, ok_left h.ok now, low_tr h.low h4 (Nat.le_of_lt h.tq.lt)⟩
end
theorem Lq.new (w : World) : Calls Try.prog 14 #[] w fun x V' => x = .returned (.pointer (some ⟨w.heap.size, 0, none⟩)) ∧ Lq w V' w.heap.size [] :=
  (new_any w).mono fun _ _ ⟨h1, h2, h3⟩ => ⟨h1, h2, ok_nil, h3⟩

set_option maxRecDepth 100000 in
set_option maxHeartbeats 4000000 in
theorem tlive_any (w : World) : Calls Try.prog 13 #[] w fun e w' => e = .returned (.bool true) ∧ Below w.heap.size w w' := by
  have K0 := Lib.hid (show ∀ (V : World) (p : Nat), Lq w V p [] → Calls Try.prog 21 #[.pointer (some ⟨p, 0, none⟩), .int .i64 5, .int .i64 9] V fun e w' => e = .returned (.int .i64 0) ∧ Lq w w' p [(5, 9)] from fun V p h => h.set 5 9)
  have K1 := Lib.hid (show ∀ (V : World) (p : Nat), Lq w V p [(5, 9)] → Calls Try.prog 21 #[.pointer (some ⟨p, 0, none⟩), .int .i64 7, .int .i64 3] V fun e w' => e = .returned (.int .i64 0) ∧ Lq w w' p [(7, 3), (5, 9)] from fun V p h => h.set 7 3)
  have K2 := Lib.hid (show ∀ (V : World) (p : Nat), Lq w V p [(7, 3), (5, 9)] → Calls Try.prog 21 #[.pointer (some ⟨p, 0, none⟩), .int .i64 2, .int .i64 9] V fun e w' => e = .returned (.int .i64 0) ∧ Lq w w' p [(7, 3), (2, 9), (5, 9)] from fun V p h => h.set 2 9)
  have K3 := Lib.hid (show ∀ (V : World) (p : Nat), Lq w V p [(7, 3), (2, 9), (5, 9)] → Calls Try.prog 21 #[.pointer (some ⟨p, 0, none⟩), .int .i64 7, .int .i64 4] V fun e w' => e = .returned (.int .i64 0) ∧ Lq w w' p [(7, 4), (2, 9), (5, 9)] from fun V p h => h.set 7 4)
  have K4 := Lib.hid (show ∀ (V : World) (p : Nat), Lq w V p [(7, 4), (2, 9), (5, 9)] → Calls Try.prog 18 #[.pointer (some ⟨p, 0, none⟩)] V fun e w' => e = .returned (.tuple #[.int .i64 7, .int .i64 4, .bool true]) ∧ Lq w w' p [(7, 4), (2, 9), (5, 9)] from fun V p h => h.nxt)
  have K5 := Lib.hid (show ∀ (V : World) (p : Nat), Lq w V p [(7, 4), (2, 9), (5, 9)] → Calls Try.prog 21 #[.pointer (some ⟨p, 0, none⟩), .int .i64 (-1), .int .i64 3] V fun e w' => e = .returned (.int .i64 1) ∧ Lq w w' p [(7, 4), (2, 9), (5, 9)] from fun V p h => h.set (-1) 3)
  have K6 := Lib.hid (show ∀ (V : World) (p : Nat), Lq w V p [(7, 4), (2, 9), (5, 9)] → Calls Try.prog 23 #[.pointer (some ⟨p, 0, none⟩), .int .i64 2] V fun e w' => e = .returned (.bool true) ∧ Lq w w' p [(7, 4), (5, 9)] from fun V p h => h.cancel 2)
  have K7 := Lib.hid (show ∀ (V : World) (p : Nat), Lq w V p [(7, 4), (5, 9)] → Calls Try.prog 23 #[.pointer (some ⟨p, 0, none⟩), .int .i64 2] V fun e w' => e = .returned (.bool false) ∧ Lq w w' p [(7, 4), (5, 9)] from fun V p h => h.cancel 2)
  have K8 := Lib.hid (show ∀ (V : World) (p : Nat), Lq w V p [(7, 4), (5, 9)] → Calls Try.prog 22 #[.pointer (some ⟨p, 0, none⟩), .int .i64 9] V fun e w' => ∃ A ca, e = .returned (.slice A 2 ca) ∧ IntsAt w' A [7, 5] ∧ Tr p V w' ∧ Lq w w' p [] from fun V p h => h.due 9)
  have K9 := Lib.hid (show ∀ (V : World) (p : Nat), Lq w V p [] → Calls Try.prog 20 #[.pointer (some ⟨p, 0, none⟩)] V fun e w' => e = .returned (.int .i64 0) ∧ V = w' from fun V p h => h.len)
  go_enter Try.func13, Try.ntmps13
  go_wp2_with fail
  refine (Lq.new w).mono ?_
  rintro x V ⟨rfl, st⟩
  generalize hp : w.heap.size = p at *
  go_wp2_with fail
  refine (K0.out _ _ st).mono ?_
  clear st K0
  rintro x V0 ⟨rfl, st⟩
  go_wp2_with fail
  refine (K1.out _ _ st).mono ?_
  clear st K1
  rintro x V1 ⟨rfl, st⟩
  go_wp2_with fail
  refine (K2.out _ _ st).mono ?_
  clear st K2
  rintro x V2 ⟨rfl, st⟩
  go_wp2_with fail
  refine (K3.out _ _ st).mono ?_
  clear st K3
  rintro x V3 ⟨rfl, st⟩
  go_wp2_with fail
  refine (K4.out _ _ st).mono ?_
  clear st K4
  rintro x V4 ⟨rfl, st⟩
  go_wp2_with fail
  refine (K5.out _ _ st).mono ?_
  clear st K5
  rintro x V5 ⟨rfl, st⟩
  go_wp2_with fail
  refine (K6.out _ _ st).mono ?_
  clear st K6
  rintro x V6 ⟨rfl, st⟩
  go_wp2_with fail
  refine (K7.out _ _ st).mono ?_
  clear st K7
  rintro x V7 ⟨rfl, st⟩
  go_wp2_with fail
  refine (K8.out _ _ st).mono ?_
  clear st K8
  rintro x V8 ⟨A, ca, rfl, hz, -, st⟩
  have lb := below_alloc V8 (.cells #[.int .i64 7, .int .i64 5] 3)
  have kn := Bk.new V8 3 #[.int .i64 7, .int .i64 5]
  have hz2 : IntsAt (V8.alloc (.cells #[.int .i64 7, .int .i64 5] 3)) (some ⟨V8.heap.size, 0, none⟩) [7, 5] := by
    refine .inr ⟨_, rfl, kn.lt, fun j hj => ?_⟩
    match j, hj with
    | 0, _ => exact kn.cell 0 _ rfl
    | 1, _ => exact kn.cell 1 _ rfl
  have K := Lib.hid (same_eq A (some ⟨V8.heap.size, 0, none⟩) ca 2 2 [7, 5] _ (hz.next lb) hz2 rfl (by unfold maxLen; omega))
  replace st := st.next lb
  clear lb kn hz hz2
  go_wp2_with fail
  refine K.out.mono ?_
  rintro x V9 ⟨rfl, hb⟩
  replace st := st.next hb
  clear hb K
  go_wp2_with fail
  refine (K9.out _ _ st).mono ?_
  rintro x V10 ⟨rfl, rfl⟩
  go_wp2_with fail
  go_ret
  exact ⟨rfl, by rw [hp]; exact st.low⟩
set_option maxRecDepth 100000 in
set_option maxHeartbeats 4000000 in
theorem timerNil_any (n : Int) (w : World) : Calls Try.prog 6 #[.int .i64 n] w fun e w' => e = .returned (.bool true) ∧ Below w.heap.size w w' := by
  go_enter Try.func6, Try.ntmps6
  go_wp2_with fail
  refine (at_nil _ _).mono ?_
  rintro x w1 ⟨rfl, rfl⟩
  go_wp2_with fail
  refine (next_nil _).mono ?_
  rintro x w1 ⟨rfl, rfl⟩
  go_wp2_with fail
  refine (set_nil _ _ _).mono ?_
  rintro x w1 ⟨rfl, rfl⟩
  go_wp2_with fail
  refine (cancel_nil _ _).mono ?_
  rintro x w1 ⟨rfl, rfl⟩
  go_wp2_with fail
  refine (due_nil _ _).mono ?_
  rintro x w1 ⟨rfl, rfl⟩
  go_wp2_with fail
  refine (tlen_nil _).mono ?_
  rintro x w1 ⟨rfl, rfl⟩
  go_wp2_with fail
  refine (tlive_any _).mono ?_
  rintro x w1 ⟨rfl, hb⟩
  go_wp2_with fail
  go_ret
  exact ⟨rfl, hb⟩
end Go.Proofs.Ytinbaepligploaa
