/- A pool: live. -/
import Derived.Test.YthmlibapjhmdbaaQ16
import Derived.Test.YthmlibapjhmdbaaW18
import Derived.Deep.AppendLies
namespace Go.Proofs.Ythmlibapjhmdbaa
open Go.RowKit Go.Shelf Go.Maps Go.Sort
attribute [local go_sem] eq33 eq40

theorem lp11' {w V : World} {p b k : Nat} (h : Lp w V p b k G4) : Calls Try.prog 16 #[.pointer (some ⟨p, 0, none⟩)] V fun e w' => ∃ A cap, e = .returned (.slice A 1 cap) ∧ NatsAt w' w'.heap.size A [9] ∧ Below V.heap.size V w' := by
  refine (lp11 h).mono ?_
  rintro e w' ⟨v, rfl, hr, hb⟩
  obtain ⟨g, cap, rfl⟩ : ∃ g cap, v = .slice (some ⟨g, 0, none⟩) 1 cap := by
    rcases hr.2 with ⟨h0, h1⟩ | ⟨g', cap', cur, h1, _⟩
    · cases h1
    · exact ⟨g', cap', h1⟩
  exact ⟨_, cap, rfl, nats_nv rfl hr, hb⟩
abbrev W7 : Array Value := #[.int .u64 7, .int .u64 0, .int .u64 0, .int .u64 0]
/-- What live knows, and the words that it keeps. -/
structure Lw (w V : World) (p b k : Nat) (g : Int → Option Sh) (bs : List Nat) : Prop where
  st : Lp w V p b k g
  bk : ∀ x ∈ bs, x ≠ b ∧ Bk V x 40 W7
section
variable {w V V' : World} {p b k k' : Nat} {g g' : Int → Option Sh} {bs : List Nat}
theorem Lw.next (h : Lw w V p b k g bs) (hb : Below V.heap.size V V') : Lw w V' p b k g bs := ⟨h.st.next hb, fun x hx => ⟨(h.bk x hx).1, (h.bk x hx).2.next hb⟩⟩
theorem Lw.turn (h : Lw w V p b k g bs) (ht : Turned V V' p b k' 1 4 g') : Lw w V' p b k' g' bs := ⟨h.st.turn ht, fun x hx => ⟨(h.bk x hx).1, (h.bk x hx).2.grown ht.grown (h.bk x hx).1⟩⟩
theorem Lw.more (h : Lw w V p b k g bs) : Lw w (V.alloc (.cells W7 40)) p b k g (V.heap.size :: bs) := by
  have := h.next ((Below.refl _ V).alloc (Nat.le_refl _) (.cells W7 40))
  refine ⟨this.st, fun x hx => ?_⟩
  rcases List.mem_cons.1 hx with rfl | hx
  · have := h.st.pool.ltb
    exact ⟨by omega, Bk.new V 40 W7⟩
  · exact this.bk x hx
theorem lw5 (h : Lw w V p b 1 G1 bs) : Calls Try.prog 28 #[.pointer (some ⟨p, 0, none⟩), .int .i64 7] V fun e w' => e = .returned (.int .i64 0) ∧ Lw w w' p b 2 G2 bs :=
  (commit_ok h.st.pool (n := 7) (by decide) (c := C7) rfl rfl (by decide)).mono fun _ _ ⟨he, ht⟩ => ⟨he, h.turn ht⟩
theorem lw8 (h : Lw w V p b 2 G2 bs) : Calls Try.prog 27 #[.pointer (some ⟨p, 0, none⟩), .int .i64 9, .agg #[.int .u64 8, .int .u64 0, .int .u64 0, .int .u64 0]] V fun e w' => e = .returned (.int .i64 0) ∧ Lw w w' p b 3 G3 bs :=
  (take_walk h.st.pool (n := 9) (by decide) (by decide) C9 8 0 0 0 8 0 0 0 0 0 0 0 rfl rfl rfl (own_yes (by decide) (by decide)) (empty_no (by decide)) (free_at fr2 p b 2) minus8 empty_yes).mono fun _ _ ⟨he, ht⟩ => ⟨he, h.turn ht⟩
theorem lw9 (h : Lw w V p b k G3 bs) : Calls Try.prog 25 #[.pointer (some ⟨p, 0, none⟩), .int .i64 7] V fun e w' => e = .returned (.int .i64 0) ∧ Lw w w' p b k G4 bs :=
  (release_ok h.st.pool (n := 7) (by decide) rfl).mono fun _ _ ⟨he, ht⟩ => ⟨he, h.turn ht⟩
end
theorem nats9 (V : World) : NatsAt (V.alloc (.cells #[.int .i64 9] 3)) (V.alloc (.cells #[.int .i64 9] 3)).heap.size (some ⟨V.heap.size, 0, none⟩) [9] := by
  refine .inr ⟨_, rfl, by simp, fun j hj => ?_⟩
  obtain rfl : j = 0 := by simp at hj; omega
  exact (Bk.new V 3 #[.int .i64 9]).cell 0 _ rfl
set_option maxRecDepth 100000 in
set_option maxHeartbeats 8000000 in
theorem live_any (w : World) : Calls Try.prog 8 #[] w fun e w' => e = .returned (.bool true) ∧ Below w.heap.size w w' := by
  go_enter Try.func8, Try.ntmps8
  go_wp2_with fail
  refine (new_ok 1 4 _ lok14).mono ?_
  rintro e w1 ⟨p, b, rfl, hp, hbb, h, hb0⟩
  have st0 : Lp w w1 p b 0 G0 := ⟨h, hb0, hbb⟩
  clear h hb0 hp hbb
  go_wp2_with fail
  refine (lp1 st0).mono ?_
  clear st0
  rintro e w2 ⟨gm, rfl, hne, hrow, st0⟩
  have st : Lw w w2 p b 1 G1 [gm] := ⟨st0, fun x hx => by
    obtain rfl := List.mem_singleton.1 hx
    exact ⟨hne, hrow⟩⟩
  clear st0 hne hrow
  go_wp2_with fail
  refine (lp2 st.st).mono ?_
  rintro e w3 ⟨rfl, hb⟩
  replace st := st.next hb
  clear hb
  go_wp2_with fail
  refine (lp3 st.st).mono ?_
  rintro e w4 ⟨rfl, hb⟩
  replace st := st.next hb
  clear hb
  go_wp2_with fail
  refine (lp4 st.st).mono ?_
  rintro e w5 ⟨rfl, hb⟩
  replace st := st.next hb
  clear hb
  go_wp2_with fail
  replace st := st.more
  generalize w5.alloc (.cells W7 40) = V5 at *
  generalize w5.heap.size = ga at *
  refine (lw5 st).mono ?_
  clear st
  rintro e w6 ⟨rfl, st⟩
  go_wp2_with fail
  refine (lp6 st.st).mono ?_
  rintro e w7 ⟨rfl, hb⟩
  replace st := st.next hb
  clear hb
  go_wp2_with fail
  replace st := st.more
  generalize w7.alloc (.cells W7 40) = V7 at *
  generalize w7.heap.size = gb at *
  refine (lp7 st.st).mono ?_
  rintro e w8 ⟨rfl, hb⟩
  replace st := st.next hb
  clear hb
  go_wp2_with fail
  refine (lw8 st).mono ?_
  clear st
  rintro e w9 ⟨rfl, st⟩
  go_wp2_with fail
  refine (lw9 st).mono ?_
  clear st
  rintro e w10 ⟨rfl, st⟩
  have x0 := (st.bk gm (by simp)).2.cell 0 _ rfl
  have x1 := (st.bk gm (by simp)).2.cell 1 _ rfl
  have x2 := (st.bk gm (by simp)).2.cell 2 _ rfl
  have x3 := (st.bk gm (by simp)).2.cell 3 _ rfl
  have y0 := (st.bk ga (by simp)).2.cell 0 _ rfl
  have y1 := (st.bk ga (by simp)).2.cell 1 _ rfl
  have y2 := (st.bk ga (by simp)).2.cell 2 _ rfl
  have y3 := (st.bk ga (by simp)).2.cell 3 _ rfl
  go_wp2_with fail
  clear x0 x1 x2 x3 y0 y1 y2 y3
  refine (lp10 st.st).mono ?_
  rintro e w11 ⟨rfl, hb⟩
  replace st := st.next hb
  clear hb
  go_wp2_with fail
  refine (lp11' st.st).mono ?_
  rintro e w12 ⟨A, cap, rfl, hA, hb⟩
  replace st := st.next hb
  clear hb
  go_wp2_with fail
  have hb := (Below.refl _ w12).alloc (Nat.le_refl _) (.cells #[.int .i64 9] 3)
  replace st := st.next hb
  have hA2 : NatsAt (w12.alloc (.cells #[.int .i64 9] 3)) (w12.alloc (.cells #[.int .i64 9] 3)).heap.size A [9] := (hA.below hb).more hb.size
  have hB2 : NatsAt (w12.alloc (.cells #[.int .i64 9] 3)) (w12.alloc (.cells #[.int .i64 9] 3)).heap.size (some ⟨w12.heap.size, 0, none⟩) [9] := nats9 w12
  refine (same_eq A (some ⟨w12.heap.size, 0, none⟩) cap 1 1 [9] _ hA2 hB2 rfl (by decide)).mono ?_
  clear hA hb hA2 hB2
  rintro e w13 ⟨rfl, hb⟩
  replace st := st.next hb
  clear hb
  go_wp2_with fail
  refine (lp12 st.st).mono ?_
  rintro e w14 ⟨rfl, hb⟩
  replace st := st.next hb
  clear hb
  go_wp2_with fail
  refine (lp13 _).mono ?_
  rintro e w15 ⟨rfl, hb⟩
  replace st := st.next hb
  clear hb
  go_wp2_with fail
  go_ret
  exact ⟨rfl, st.st.low⟩
end Go.Proofs.Ythmlibapjhmdbaa
