/- A book of one's own; live. -/
import Derived.Test.YtjolkcomlindhaaB5
namespace Go.Proofs.Ytjolkcomlindhaa
open Go.RowKit Go.Shelf Go.Maps Go.Sort

/-- A book that was made behind world w, which lies as it did. -/
structure Lv (w V : World) (p : Nat) (m : Option Nat) (k : Nat) (L : List (Int × Int)) : Prop where
  book : BookAt V p m k L
  low : Below w.heap.size w V
  hp : w.heap.size ≤ p
  hm : ∀ b, m = some b → w.heap.size ≤ b
section
variable {w V V' : World} {p k : Nat} {m m' : Option Nat} {L L' : List (Int × Int)}
theorem Lv.next (h : Lv w V p m k L) (hb : Below V.heap.size V V') : Lv w V' p m k L := ⟨h.book.next hb, bmore h.low hb, h.hp, h.hm⟩
theorem Lv.turn (h : Lv w V p m k L) (hB : BookAt V' p m' (k + 1) L') (ht : Tn V V' p m) (hf : Fresh V m m') : Lv w V' p m' (k + 1) L' := by
  refine ⟨hB, h.low.trans (ht.below h.low.size h.hp h.hm), h.hp, fun b e => ?_⟩
  rcases hf with rfl | ⟨_, b', rfl, hb⟩
  · exact h.hm b e
  · cases e
    have := h.low.size
    omega
end
def u1 : Us := ⟨5, 4, 3, 10, rfl, rfl, rfl, rfl⟩
def u2 : Us := ⟨2, 1, 1, 1, rfl, rfl, rfl, rfl⟩
def u3 : Us := ⟨5, 1, 2, 1, rfl, rfl, rfl, rfl⟩
def u4 : Us := ⟨5, 9223372036854775807, 0, 2, rfl, rfl, rfl, rfl⟩
theorem n1 : noted [] u1 = [(5, 28)] ∧ u1.e = 0 := by decide +kernel
theorem n2 : noted [(5, 28)] u2 = [(2, 0), (5, 28)] ∧ u2.e = 0 := by decide +kernel
theorem n3 : noted [(2, 0), (5, 28)] u3 = [(2, 0), (5, 28)] ∧ u3.e = 1 := by decide +kernel
theorem n4 : noted [(2, 0), (5, 28)] u4 = [(2, 0), (5, 9223372036854775807)] ∧ u4.e = 0 := by decide +kernel
theorem s3 : allS [(2, 0), (5, 28)] = 28 := by decide +kernel
theorem s4 : allS [(2, 0), (5, 9223372036854775807)] = 9223372036854775807 ∧ jobS [(2, 0), (5, 9223372036854775807)] 5 = 9223372036854775807 := by decide +kernel
section
variable {w V : World} {p k : Nat} {m : Option Nat} {L L' : List (Int × Int)}
theorem lnote (h : Lv w V p m k L) (hk : k < 1000) (u : Us) (e : Int) (hn : noted L u = L' ∧ u.e = e) : Calls Try.prog 23 #[.pointer (some ⟨p, 0, none⟩), u.v] V fun x V' => ∃ m', x = .returned (.int .i64 e) ∧ Lv w V' p m' (k + 1) L' := by
  have := note_any h.book u hk
  rw [hn.1, hn.2] at this
  refine this.mono ?_
  rintro x V' ⟨m', rfl, h1, h2, h3⟩
  exact ⟨m', rfl, h.turn h1 h2 h3⟩
end
theorem a1 (w : World) : Calls Try.prog 17 #[.int .i64 9223372036854775807, .int .i64 1] w fun x w' => x = .returned (.int .i64 9223372036854775807) ∧ w = w' := add_any _ _ rfl rfl w
theorem a2 (w : World) : Calls Try.prog 17 #[.int .i64 (-5), .int .i64 3] w fun x w' => x = .returned (.int .i64 3) ∧ w = w' := add_any _ _ rfl rfl w
theorem t1 (w : World) : Calls Try.prog 19 #[.int .i64 4611686018427387904, .int .i64 2] w fun x w' => x = .returned (.int .i64 9223372036854775807) ∧ w = w' := times_any _ _ rfl rfl w
theorem t2 (w : World) : Calls Try.prog 19 #[.int .i64 0, .int .i64 9223372036854775807] w fun x w' => x = .returned (.int .i64 0) ∧ w = w' := times_any _ _ rfl rfl w
theorem t3 (w : World) : Calls Try.prog 19 #[.int .i64 3, .int .i64 (-1)] w fun x w' => x = .returned (.int .i64 0) ∧ w = w' := times_any _ _ rfl rfl w
set_option maxRecDepth 100000 in
set_option maxHeartbeats 2000000 in
theorem live_any (w : World) : Calls Try.prog 21 #[] w fun e w' => e = .returned (.bool true) ∧ Below w.heap.size w w' := by
  go_enter Try.func21, Try.ntmps21
  go_wp2_with fail
  refine (new_any w).mono ?_
  rintro x w1 ⟨p, rfl, hp, hB, hb⟩
  have st : Lv w w1 p none 0 [] := ⟨hB, hb, hp, fun b e => by cases e⟩
  clear hB hb hp
  go_wp2_with fail
  refine (lnote st (by omega) u1 0 n1).mono ?_
  rintro x w2 ⟨m2, rfl, st⟩
  go_wp2_with fail
  refine (lnote st (by omega) u2 0 n2).mono ?_
  rintro x w3 ⟨m3, rfl, st⟩
  go_wp2_with fail
  refine (lnote st (by omega) u3 1 n3).mono ?_
  rintro x w4 ⟨m4, rfl, st⟩
  go_wp2_with fail
  have K := all_any st.book (by decide)
  rw [s3] at K
  refine K.mono ?_
  rintro x w5 ⟨rfl, hb⟩
  replace st := st.next hb
  clear hb K
  go_wp2_with fail
  refine (lnote st (by omega) u4 0 n4).mono ?_
  rintro x w6 ⟨m6, rfl, st⟩
  go_wp2_with fail
  refine (a1 _).mono ?_
  rintro x w7 ⟨rfl, rfl⟩
  go_wp2_with fail
  refine (a2 _).mono ?_
  rintro x w7 ⟨rfl, rfl⟩
  go_wp2_with fail
  refine (t1 _).mono ?_
  rintro x w7 ⟨rfl, rfl⟩
  go_wp2_with fail
  refine (t2 _).mono ?_
  rintro x w7 ⟨rfl, rfl⟩
  go_wp2_with fail
  refine (t3 _).mono ?_
  rintro x w7 ⟨rfl, rfl⟩
  go_wp2_with fail
  have K := job_any st.book (n := 5) rfl
  rw [s4.2] at K
  refine K.mono ?_
  rintro x w7 ⟨rfl, rfl⟩
  clear K
  go_wp2_with fail
  have K := all_any st.book (by decide)
  rw [s4.1] at K
  refine K.mono ?_
  rintro x w8 ⟨rfl, hb⟩
  replace st := st.next hb
  clear hb K
  go_wp2_with fail
  refine (jobs_any st.book (by decide)).mono ?_
  rintro x w9 ⟨v, rfl, hrow, hb⟩
  replace st := st.next hb
  obtain ⟨A, cap, rfl⟩ := own_form hrow
  have hz := ints_iv rfl hrow
  clear hb hrow
  have kb := Bk.new w9 3 #[.int .i64 2, .int .i64 5]
  have hz1 := hz.next (below_alloc w9 (.cells #[.int .i64 2, .int .i64 5] 3))
  have hz2 : IntsAt (w9.alloc (.cells #[.int .i64 2, .int .i64 5] 3)) (some ⟨w9.heap.size, 0, none⟩) [2, 5] := by
    refine .inr ⟨_, rfl, kb.lt, ?_⟩
    intro j hj
    match j, hj with
    | 0, _ => exact kb.cell 0 _ rfl
    | 1, _ => exact kb.cell 1 _ rfl
  have HS := Lib.hid (same_eq A (some ⟨w9.heap.size, 0, none⟩) cap 2 2 [2, 5] _ hz1 hz2 rfl (by unfold maxLen; omega))
  clear hz1 hz2 hz
  go_wp2_with fail
  refine HS.out.mono ?_
  rintro x w10 ⟨rfl, hb⟩
  go_wp2_with fail
  go_ret
  exact ⟨rfl, bmore (bmore st.low (below_alloc _ _)) hb⟩
end Go.Proofs.Ytjolkcomlindhaa
