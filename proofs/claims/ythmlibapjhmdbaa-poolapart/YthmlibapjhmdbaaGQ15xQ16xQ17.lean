/- A pool: its owners, rising; what live does, call by call. -/
import Derived.Test.YthmlibapjhmdbaaGQ12xQ13xQ14
import Derived.Test.YthmlibapjhmdbaaGW18xW19xW20
import Derived.Deep.AppendLies
namespace Go.Proofs.Ythmlibapjhmdbaa
open Go.RowKit Go.Shelf Go.Maps Go.Sort

theorem size_keys {D : DataW Unit} (h : IsMap D) : Maps.size D = (intKeys D).length := by
  obtain ⟨es, rfl⟩ := h
  simp [Maps.size, intKeys]
theorem owners_at {w : World} {p b k s q : Nat} {g : Int → Option Sh} (h : PoolAt w p b k s q g) (L : List Int) (hL : L.Pairwise (· < ·)) (hin : ∀ n, n ∈ L ↔ (g n).isSome = true) (hl : L.length ≤ 1000000) :
    Calls Try.prog 16 #[.pointer (some ⟨p, 0, none⟩)] w fun e w' => ∃ v, e = .returned v ∧ w'.ownsRow w.heap.size 3 1 v L.length (L.map encZ) ∧ (v = .slice none 0 0 ↔ L = []) ∧ Below w.heap.size w w' := by
  obtain ⟨D, hown, hs⟩ := h.own
  have hnd : L.Nodup := hL.imp (fun hlt => by omega)
  have hp : L.Perm (intKeys D) := by
    obtain ⟨es, hD, hpw, _⟩ := hown.entries law
    obtain ⟨es', hD', hko⟩ := hown.keysOf
    obtain rfl : es = es' := by rw [hD] at hD'; simpa using hD'
    subst hD
    exact perm_intKeys hpw (fun p hp => by obtain ⟨v, hv⟩ := hko p hp; obtain ⟨x, _, hx, _⟩ := Maps.keyOf_i64 Try.underlying3 hv; exact ⟨x, hx⟩) hnd (fun x => by rw [hin, ← hs.has])
  have hsz : Maps.size D = L.length := by rw [size_keys hs.map, hp.length_eq]
  refine (owners_map h.blk D hown (by rw [hsz]; unfold maxLen; omega) (by omega)).mono ?_
  rintro e w' ⟨v, ss, rfl, hss, hrow, hnil, hb⟩
  have hsl : ss.Perm L := hss.trans hp.symm
  have hsort : ss.mergeSort (fun x y => decide (x ≤ y)) = L := by
    have e1 : ss.mergeSort leI = L.mergeSort leI := mergeSort_of_perm_i hsl
    have e2 : L.mergeSort leI = L := List.mergeSort_of_pairwise (hL.imp (fun hlt => by simp only [leI, decide_eq_true_eq]; omega))
    exact e1.trans e2
  rw [hsort, hsl.length_eq] at hrow
  refine ⟨v, rfl, hrow, hnil.trans ⟨fun e => ?_, fun e => ?_⟩, hb⟩
  · subst e; exact hsl.symm.eq_nil
  · subst e; exact hsl.eq_nil
end Go.Proofs.Ythmlibapjhmdbaa
/- A pool: live's calls on the way. -/
namespace Go.Proofs.Ythmlibapjhmdbaa
open Go.RowKit Go.Shelf Go.Maps Go.Sort

/-- What live knows on its way: its pool, and all elder memory as it was. -/
structure Lp (w V : World) (p b k : Nat) (g : Int → Option Sh) : Prop where
  pool : PoolAt V p b k 1 4 g
  low : Below w.heap.size w V
  nb : w.heap.size ≤ b
section
variable {w V V' : World} {p b k k' : Nat} {g g' : Int → Option Sh}
theorem Lp.next (h : Lp w V p b k g) (hb : Below V.heap.size V V') : Lp w V' p b k g := ⟨h.pool.next hb, h.low.trans (hb.mono h.low.size), h.nb⟩
theorem Lp.turn (h : Lp w V p b k g) (ht : Turned V V' p b k' 1 4 g') : Lp w V' p b k' g' :=
  ⟨ht.pool, h.low.grown ht.grown h.low.size (fun j ej => by cases ej; exact h.nb), h.nb⟩
end
section
variable {w V : World} {p b k : Nat}
theorem PoolAt.ltb {V : World} {p b k s q : Nat} {g : Int → Option Sh} (h : PoolAt V p b k s q g) : b < V.heap.size := by
  obtain ⟨D, h1, _⟩ := h.own
  exact h1.lt
/-- Owner 7 reserves three cores. -/
theorem lp1 (h : Lp w V p b 0 G0) : Calls Try.prog 26 #[.pointer (some ⟨p, 0, none⟩), .int .i64 7, .agg #[.int .u64 0, .int .u64 0, .int .u64 0, .int .u64 0, .int .i64 1, .int .i64 3, .int .i64 0]] V fun e w' => ∃ gm, e = .returned (.tuple #[.slice (some ⟨gm, 0, none⟩) 1 1, .int .i64 0]) ∧ gm ≠ b ∧ Row .u64 40 w' gm [7, 0, 0, 0] ∧ Lp w w' p b 1 G1 := by
  have := reserve_ok h.pool (n := 7) (by decide) 0 0 0 0 1 3 0 (by decide) C7 15 0 0 0 7 0 0 0 1 [7, 0, 0, 0] rfl rfl (own_yes (by decide) (by decide)) rfl (free_at fr0 p b 0) assign7 union7
  refine this.mono ?_
  rintro e w' ⟨gm, rfl, hg, hr, ht⟩
  have := h.pool.ltb
  exact ⟨gm, rfl, by omega, hr, h.turn ht⟩
/-- Owner 7 has cores. -/
theorem lp2 (h : Lp w V p b k G1) : Calls Try.prog 26 #[.pointer (some ⟨p, 0, none⟩), .int .i64 7, .agg #[.int .u64 0, .int .u64 0, .int .u64 0, .int .u64 0, .int .i64 1, .int .i64 1, .int .i64 0]] V fun e w' => e = .returned (.tuple #[.slice none 0 0, .int .i64 14]) ∧ Below V.heap.size V w' :=
  reserve_has h.pool (n := 7) (by decide) 0 0 0 0 1 1 0 (own_yes (by decide) (by decide)) rfl
/-- Owner 8 asks for more than is free. -/
theorem lp3 (h : Lp w V p b k G1) : Calls Try.prog 26 #[.pointer (some ⟨p, 0, none⟩), .int .i64 8, .agg #[.int .u64 0, .int .u64 0, .int .u64 0, .int .u64 0, .int .i64 2, .int .i64 1, .int .i64 0]] V fun e w' => e = .returned (.tuple #[.slice none 0 0, .int .i64 12]) ∧ Below V.heap.size V w' :=
  reserve_few h.pool (n := 8) (by decide) 0 0 0 0 2 1 0 8 0 0 0 12 (by decide) (own_yes (by decide) (by decide)) rfl (free_at fr1 p b k) assign8
theorem lp4 (h : Lp w V p b k G1) : Calls Try.prog 18 #[.pointer (some ⟨p, 0, none⟩), .int .i64 7] V fun e w' => e = .returned (.tuple #[.agg #[.int .u64 7, .int .u64 0, .int .u64 0, .int .u64 0], .bool false]) ∧ Below V.heap.size V w' :=
  ofOwner_any h.pool (n := 7) (by decide)
theorem lp5 (h : Lp w V p b 1 G1) : Calls Try.prog 28 #[.pointer (some ⟨p, 0, none⟩), .int .i64 7] V fun e w' => e = .returned (.int .i64 0) ∧ Lp w w' p b 2 G2 :=
  (commit_ok h.pool (n := 7) (by decide) (c := C7) rfl rfl (by decide)).mono fun _ _ ⟨he, ht⟩ => ⟨he, h.turn ht⟩
theorem lp6 (h : Lp w V p b k G2) : Calls Try.prog 18 #[.pointer (some ⟨p, 0, none⟩), .int .i64 7] V fun e w' => e = .returned (.tuple #[.agg #[.int .u64 7, .int .u64 0, .int .u64 0, .int .u64 0], .bool true]) ∧ Below V.heap.size V w' :=
  ofOwner_any h.pool (n := 7) (by decide)
theorem lp7 (h : Lp w V p b k G2) : Calls Try.prog 27 #[.pointer (some ⟨p, 0, none⟩), .int .i64 9, .agg #[.int .u64 12, .int .u64 0, .int .u64 0, .int .u64 0]] V fun e w' => e = .returned (.int .i64 12) ∧ Below V.heap.size V w' :=
  take_cores h.pool (n := 9) (by decide) 12 0 0 0 8 0 0 0 4 0 0 0 rfl (own_yes (by decide) (by decide)) (empty_no (by decide)) (free_at fr2 p b k) minus12 (empty_no (by decide))
theorem lp8 (h : Lp w V p b 2 G2) : Calls Try.prog 27 #[.pointer (some ⟨p, 0, none⟩), .int .i64 9, .agg #[.int .u64 8, .int .u64 0, .int .u64 0, .int .u64 0]] V fun e w' => e = .returned (.int .i64 0) ∧ Lp w w' p b 3 G3 :=
  (take_walk h.pool (n := 9) (by decide) (by decide) C9 8 0 0 0 8 0 0 0 0 0 0 0 rfl rfl rfl (own_yes (by decide) (by decide)) (empty_no (by decide)) (free_at fr2 p b 2) minus8 empty_yes).mono fun _ _ ⟨he, ht⟩ => ⟨he, h.turn ht⟩
theorem lp9 (h : Lp w V p b k G3) : Calls Try.prog 25 #[.pointer (some ⟨p, 0, none⟩), .int .i64 7] V fun e w' => e = .returned (.int .i64 0) ∧ Lp w w' p b k G4 :=
  (release_ok h.pool (n := 7) (by decide) rfl).mono fun _ _ ⟨he, ht⟩ => ⟨he, h.turn ht⟩
theorem lp10 (h : Lp w V p b k G4) : Calls Try.prog 13 #[.pointer (some ⟨p, 0, none⟩)] V fun e w' => e = .returned (.agg #[.int .u64 7, .int .u64 0, .int .u64 0, .int .u64 0]) ∧ Below V.heap.size V w' :=
  free_at fr4 p b k V h.pool
theorem g4_in (n : Int) : n ∈ [(9 : Int)] ↔ (G4 n).isSome = true := by
  unfold G4 G3 G2 G1 G0
  constructor
  · intro h
    simp at h
    subst h
    rfl
  · intro h
    split at h
    · cases h
    · split at h
      · next h9 => simp [h9]
      · cases h
theorem lp11 (h : Lp w V p b k G4) : Calls Try.prog 16 #[.pointer (some ⟨p, 0, none⟩)] V fun e w' => ∃ v, e = .returned v ∧ w'.ownsRow V.heap.size 3 1 v 1 [.int .i64 9] ∧ Below V.heap.size V w' :=
  (owners_at h.pool [9] (by simp) g4_in (by simp)).mono fun _ _ ⟨v, he, hr, _, hb⟩ => ⟨v, he, hr, hb⟩
theorem lp12 (h : Lp w V p b k G4) : Calls Try.prog 25 #[.pointer (some ⟨p, 0, none⟩), .int .i64 7] V fun e w' => e = .returned (.int .i64 14) ∧ Below V.heap.size V w' :=
  release_no h.pool (n := 7) (by decide) rfl
theorem lp13 (V : World) : Calls Try.prog 9 #[.agg #[.int .i64 0, .int .i64 0]] V fun e w' => e = .returned (.pointer none) ∧ Below V.heap.size V w' :=
  new_bad 0 0 V (by unfold LBad; omega)
end
end Go.Proofs.Ythmlibapjhmdbaa
/- A pool: live. -/
namespace Go.Proofs.Ythmlibapjhmdbaa
open Go.RowKit Go.Shelf Go.Maps Go.Sort
attribute [local go_sem] eq33 eq40

theorem lp11' {w V : World} {p b k : Nat} (h : Lp w V p b k G4) : Calls Try.prog 16 #[.pointer (some ⟨p, 0, none⟩)] V fun e w' => ∃ A cap, e = .returned (.slice A 1 cap) ∧ NatsAt w' w'.heap.size A [9] ∧ Below V.heap.size V w' := by
  refine (lp11 h).mono ?_
  rintro e w' ⟨v, rfl, hr, hb⟩
  obtain ⟨g, cap, rfl⟩ : ∃ g cap, v = .slice (some ⟨g, 0, none⟩) 1 cap := by
    rcases hr.2 with ⟨h0, h1⟩ | ⟨g', cap', cur, h1, _⟩
    · cases h1
    · exact ⟨g', cap', h1⟩
  exact ⟨_, cap, rfl, nats_nv rfl hr, hb⟩
abbrev W7 : Array Value := #[.int .u64 7, .int .u64 0, .int .u64 0, .int .u64 0]
/-- What live knows, and the words that it keeps. -/
structure Lw (w V : World) (p b k : Nat) (g : Int → Option Sh) (bs : List Nat) : Prop where
  st : Lp w V p b k g
  bk : ∀ x ∈ bs, x ≠ b ∧ Bk V x 40 W7
section
variable {w V V' : World} {p b k k' : Nat} {g g' : Int → Option Sh} {bs : List Nat}
theorem Lw.next (h : Lw w V p b k g bs) (hb : Below V.heap.size V V') : Lw w V' p b k g bs := ⟨h.st.next hb, fun x hx => ⟨(h.bk x hx).1, (h.bk x hx).2.next hb⟩⟩
theorem Lw.turn (h : Lw w V p b k g bs) (ht : Turned V V' p b k' 1 4 g') : Lw w V' p b k' g' bs := ⟨h.st.turn ht, fun x hx => ⟨(h.bk x hx).1, (h.bk x hx).2.grown ht.grown (h.bk x hx).1⟩⟩
theorem Lw.more (h : Lw w V p b k g bs) : Lw w (V.alloc (.cells W7 40)) p b k g (V.heap.size :: bs) := by
  have := h.next ((Below.refl _ V).alloc (Nat.le_refl _) (.cells W7 40))
  refine ⟨this.st, fun x hx => ?_⟩
  rcases List.mem_cons.1 hx with rfl | hx
  · have := h.st.pool.ltb
    exact ⟨by omega, Bk.new V 40 W7⟩
  · exact this.bk x hx
theorem lw5 (h : Lw w V p b 1 G1 bs) : Calls Try.prog 28 #[.pointer (some ⟨p, 0, none⟩), .int .i64 7] V fun e w' => e = .returned (.int .i64 0) ∧ Lw w w' p b 2 G2 bs :=
  (commit_ok h.st.pool (n := 7) (by decide) (c := C7) rfl rfl (by decide)).mono fun _ _ ⟨he, ht⟩ => ⟨he, h.turn ht⟩
theorem lw8 (h : Lw w V p b 2 G2 bs) : Calls Try.prog 27 #[.pointer (some ⟨p, 0, none⟩), .int .i64 9, .agg #[.int .u64 8, .int .u64 0, .int .u64 0, .int .u64 0]] V fun e w' => e = .returned (.int .i64 0) ∧ Lw w w' p b 3 G3 bs :=
  (take_walk h.st.pool (n := 9) (by decide) (by decide) C9 8 0 0 0 8 0 0 0 0 0 0 0 rfl rfl rfl (own_yes (by decide) (by decide)) (empty_no (by decide)) (free_at fr2 p b 2) minus8 empty_yes).mono fun _ _ ⟨he, ht⟩ => ⟨he, h.turn ht⟩
theorem lw9 (h : Lw w V p b k G3 bs) : Calls Try.prog 25 #[.pointer (some ⟨p, 0, none⟩), .int .i64 7] V fun e w' => e = .returned (.int .i64 0) ∧ Lw w w' p b k G4 bs :=
  (release_ok h.st.pool (n := 7) (by decide) rfl).mono fun _ _ ⟨he, ht⟩ => ⟨he, h.turn ht⟩
end
theorem nats9 (V : World) : NatsAt (V.alloc (.cells #[.int .i64 9] 3)) (V.alloc (.cells #[.int .i64 9] 3)).heap.size (some ⟨V.heap.size, 0, none⟩) [9] := by
  refine .inr ⟨_, rfl, by simp, fun j hj => ?_⟩
  obtain rfl : j = 0 := by simp at hj; omega
  exact (Bk.new V 3 #[.int .i64 9]).cell 0 _ rfl
set_option maxRecDepth 100000 in
set_option maxHeartbeats 8000000 in
theorem live_any (w : World) : Calls Try.prog 8 #[] w fun e w' => e = .returned (.bool true) ∧ Below w.heap.size w w' := by
  go_enter Try.func8, Try.ntmps8
  go_wp2_with fail
  refine (new_ok 1 4 _ lok14).mono ?_
  rintro e w1 ⟨p, b, rfl, hp, hbb, h, hb0⟩
  have st0 : Lp w w1 p b 0 G0 := ⟨h, hb0, hbb⟩
  clear h hb0 hp hbb
  go_wp2_with fail
  refine (lp1 st0).mono ?_
  clear st0
  rintro e w2 ⟨gm, rfl, hne, hrow, st0⟩
  have st : Lw w w2 p b 1 G1 [gm] := ⟨st0, fun x hx => by
    obtain rfl := List.mem_singleton.1 hx
    exact ⟨hne, hrow⟩⟩
  clear st0 hne hrow
  go_wp2_with fail
  refine (lp2 st.st).mono ?_
  rintro e w3 ⟨rfl, hb⟩
  replace st := st.next hb
  clear hb
  go_wp2_with fail
  refine (lp3 st.st).mono ?_
  rintro e w4 ⟨rfl, hb⟩
  replace st := st.next hb
  clear hb
  go_wp2_with fail
  refine (lp4 st.st).mono ?_
  rintro e w5 ⟨rfl, hb⟩
  replace st := st.next hb
  clear hb
  go_wp2_with fail
  replace st := st.more
  generalize w5.alloc (.cells W7 40) = V5 at *
  generalize w5.heap.size = ga at *
  refine (lw5 st).mono ?_
  clear st
  rintro e w6 ⟨rfl, st⟩
  go_wp2_with fail
  refine (lp6 st.st).mono ?_
  rintro e w7 ⟨rfl, hb⟩
  replace st := st.next hb
  clear hb
  go_wp2_with fail
  replace st := st.more
  generalize w7.alloc (.cells W7 40) = V7 at *
  generalize w7.heap.size = gb at *
  refine (lp7 st.st).mono ?_
  rintro e w8 ⟨rfl, hb⟩
  replace st := st.next hb
  clear hb
  go_wp2_with fail
  refine (lw8 st).mono ?_
  clear st
  rintro e w9 ⟨rfl, st⟩
  go_wp2_with fail
  refine (lw9 st).mono ?_
  clear st
  rintro e w10 ⟨rfl, st⟩
  have x0 := (st.bk gm (by simp)).2.cell 0 _ rfl
  have x1 := (st.bk gm (by simp)).2.cell 1 _ rfl
  have x2 := (st.bk gm (by simp)).2.cell 2 _ rfl
  have x3 := (st.bk gm (by simp)).2.cell 3 _ rfl
  have y0 := (st.bk ga (by simp)).2.cell 0 _ rfl
  have y1 := (st.bk ga (by simp)).2.cell 1 _ rfl
  have y2 := (st.bk ga (by simp)).2.cell 2 _ rfl
  have y3 := (st.bk ga (by simp)).2.cell 3 _ rfl
  go_wp2_with fail
  clear x0 x1 x2 x3 y0 y1 y2 y3
  refine (lp10 st.st).mono ?_
  rintro e w11 ⟨rfl, hb⟩
  replace st := st.next hb
  clear hb
  go_wp2_with fail
  refine (lp11' st.st).mono ?_
  rintro e w12 ⟨A, cap, rfl, hA, hb⟩
  replace st := st.next hb
  clear hb
  go_wp2_with fail
  have hb := (Below.refl _ w12).alloc (Nat.le_refl _) (.cells #[.int .i64 9] 3)
  replace st := st.next hb
  have hA2 : NatsAt (w12.alloc (.cells #[.int .i64 9] 3)) (w12.alloc (.cells #[.int .i64 9] 3)).heap.size A [9] := (hA.below hb).more hb.size
  have hB2 : NatsAt (w12.alloc (.cells #[.int .i64 9] 3)) (w12.alloc (.cells #[.int .i64 9] 3)).heap.size (some ⟨w12.heap.size, 0, none⟩) [9] := nats9 w12
  refine (same_eq A (some ⟨w12.heap.size, 0, none⟩) cap 1 1 [9] _ hA2 hB2 rfl (by decide)).mono ?_
  clear hA hb hA2 hB2
  rintro e w13 ⟨rfl, hb⟩
  replace st := st.next hb
  clear hb
  go_wp2_with fail
  refine (lp12 st.st).mono ?_
  rintro e w14 ⟨rfl, hb⟩
  replace st := st.next hb
  clear hb
  go_wp2_with fail
  refine (lp13 _).mono ?_
  rintro e w15 ⟨rfl, hb⟩
  replace st := st.next hb
  clear hb
  go_wp2_with fail
  go_ret
  exact ⟨rfl, st.st.low⟩
end Go.Proofs.Ythmlibapjhmdbaa
