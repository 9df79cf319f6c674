/- Blocks in memory; ladder: isWithin, Check, mayBe, End. -/
import Derived.Test.YtinbaepligploaaRows
import Derived.WalkKit
import Derived.WalkSpells
import Derived.WalkLawsBesides
import Derived.Laws.Rows
import Derived.Deep.Draws
import Derived.StillTailTactics
import Derived.OwnWalk
import Derived.Laws.CopyOwn
import Derived.BigQuiet
import Derived.Deep.QuietTactic
import Derived.IntWalk
import Derived.Lib.Hide
import Derived.Deep.RegionHeld3
namespace Go.Proofs.Ytinbaepligploaa
open Go.RowKit

/-- Block g is just these cells. -/
def Bk (w : World) (g : Nat) (t : TypeId) (cs : Array Value) : Prop := w.heap[g]? = some (.cells cs t (0, 0))
section
variable {w w' : World} {B g b : Nat} {t : TypeId} {cs : Array Value}
theorem Bk.lt (h : Bk w g t cs) : g < w.heap.size := (Array.getElem?_eq_some_iff.1 h).1
theorem Bk.cell (h : Bk w g t cs) (i : Nat) (v : Value) (hv : cs[i]? = some v) : w.cell? ⟨g, i, none⟩ = some v := (cell_of_row w g i cs t (0, 0) h).trans hv
theorem Bk.frozen (h : Bk w g t cs) (i : Nat) : w.frozen? ⟨g, i, none⟩ = false := frozen_of_row w g i cs t h
theorem Bk.below (h : Bk w g t cs) (hb : Below B w w') (hg : g < B) : Bk w' g t cs := (hb.block g hg).trans h
theorem Bk.next (h : Bk w g t cs) (hb : Below w.heap.size w w') : Bk w' g t cs := h.below hb h.lt
theorem Bk.alloc (h : Bk w g t cs) (o : Obj) : Bk (w.alloc o) g t cs := (Below.heap_alloc w o g h.lt).trans h
theorem Bk.new (w : World) (t : TypeId) (cs : Array Value) : Bk (w.alloc (.cells cs t)) w.heap.size t cs := heap_alloc_new w _
theorem Bk.grown (h : Bk w g t cs) (hg : w.grownBy w' (some b)) (hne : g ≠ b) : Bk w' g t cs := (hg.block g h.lt (by simpa using hne)).trans h
theorem Bk.drew (h : Bk w g t cs) : Bk w.drew g t cs := h
theorem Bk.hid {w2 : World} (h : Bk w g t cs) (e : Hid (w2 = w.drew)) : Bk w2 g t cs := by rw [e.out]; exact h.drew
end
theorem bmore {a b c : World} (h : Below a.heap.size a b) (k : Below b.heap.size b c) : Below a.heap.size a c := h.trans (k.mono h.size)
theorem size_alloc (w : World) (o : Obj) : (w.alloc o).heap.size = w.heap.size + 1 := by simp
theorem only_of_below {a w : World} (h : Below a.heap.size a w) : a.grownBy w none := ⟨h.os, h.tape, h.output, h.size, fun i hi _ => h.block i hi⟩
theorem below_alloc (w : World) (o : Obj) : Below w.heap.size w (w.alloc o) := (Below.refl _ _).alloc (Nat.le_refl _) o
/-- A region that draws its order, reads and calls quietly, and ends in a forced tail: its world under a name. -/
theorem region_tail {P : Program} {id : Nat} {Q : Exit → Act → World → Prop} {a : Act} {w : World} {l : List Oper} (n : Nat) (hm : P.follows .mixedOrders = true) (hB : Region.lexTailB .any l.toArray n = true)
    (h : ∀ w2, Hid (w2 = w.drew) → wpStill P l.toArray w2 (fun a' => wpList P l.toArray Q (l.drop n) a' w2) (l.take n) a) : (Code.region id l.toArray true).wp P Q a w :=
  wp_region_still_tail n hm hB (h _ rfl)
theorem region_still {P : Program} {id : Nat} {Q : Exit → Act → World → Prop} {a : Act} {w : World} {l : List Oper} (hm : P.follows .mixedOrders = true) (hB : Region.lexB .any l.toArray = true)
    (h : ∀ w2, Hid (w2 = w.drew) → wpStill P l.toArray w2 (fun a' => Q .normal a' w2) l a) : (Code.region id l.toArray true).wp P Q a w :=
  wp_region_still_lit hm hB (h _ rfl)
theorem below_hid {B : Nat} {a w w2 : World} (h : Below B a w) (e : Hid (w2 = w.drew)) : Below B a w2 := by rw [e.out]; exact h.drew

theorem block_add (a : Addr) (n : Nat) : (a.add n).block = a.block := by unfold Addr.add; split <;> rfl
/-- A slice of ints, as its numbers. -/
def IntsAt (w : World) (A : Option Addr) (zs : List Int) : Prop := zs = [] ∨ ∃ ad, A = some ad ∧ ad.block < w.heap.size ∧ ∀ j, j < zs.length → w.cell? (ad.add j) = some (.int .i64 (zs.getD j 0))
theorem IntsAt.at_ {w : World} {A : Option Addr} {zs : List Int} (h : IntsAt w A zs) {k : Nat} (hk : k < zs.length) : ∃ ad, A = some ad ∧ ad.block < w.heap.size ∧ w.cell? (ad.add k) = some (.int .i64 (zs.getD k 0)) := by
  rcases h with rfl | ⟨ad, rfl, hb, hc⟩
  · cases hk
  · exact ⟨ad, rfl, hb, hc k hk⟩
theorem IntsAt.below {w w' : World} {B : Nat} {A : Option Addr} {zs : List Int} (h : IntsAt w A zs) (hb : Below B w w') (hB : ∀ ad, A = some ad → ad.block < B) : IntsAt w' A zs := by
  rcases h with rfl | ⟨ad, rfl, h1, h2⟩
  · exact .inl rfl
  · exact .inr ⟨ad, rfl, Nat.lt_of_lt_of_le h1 hb.size, fun j hj => (hb.cell (p := ad.add j) (by rw [block_add]; exact hB ad rfl)).trans (h2 j hj)⟩
theorem IntsAt.next {w w' : World} {A : Option Addr} {zs : List Int} (h : IntsAt w A zs) (hb : Below w.heap.size w w') : IntsAt w' A zs := by
  rcases h with rfl | ⟨ad, rfl, h1, h2⟩
  · exact .inl rfl
  · exact .inr ⟨ad, rfl, Nat.lt_of_lt_of_le h1 hb.size, fun j hj => (hb.cell (p := ad.add j) (by rw [block_add]; exact h1)).trans (h2 j hj)⟩


/-- Is n least to most? -/
def withinB (n l m : Int) : Bool := decide (l ≤ n) && decide (n ≤ m)
set_option maxRecDepth 100000 in
set_option maxHeartbeats 400000 in
theorem within_any (n l m : Int) (w : World) : Calls Try.prog 47 #[.int .i64 n, .int .i64 l, .int .i64 m] w fun x w' => x = .returned (.bool (withinB n l m)) ∧ w = w' := by
  unfold withinB
  by_cases h : l ≤ n
  · have t0 : decide (l ≤ n) = true := by simpa using h
    go_enter Try.func47, Try.ntmps47
    go_wp2_with fail
    go_ret
    exact ⟨by first | rfl | (rw [t0]; rfl), rfl⟩
  · have t0 : decide (l ≤ n) = false := by simpa using h
    go_enter Try.func47, Try.ntmps47
    go_wp2_with fail
    go_ret
    exact ⟨by first | rfl | (rw [t0]; rfl), rfl⟩

/-- May a plan be? -/
def chkB (l wn g k : Int) : Bool := withinB l 1 1073741824 && withinB wn 0 l && withinB g 0 1073741824 && withinB k 0 1073741824
def chkE (l wn g k : Int) : Int := if chkB l wn g k then 0 else 1
theorem chkE_zero (l wn g k : Int) : (chkE l wn g k == 0) = chkB l wn g k := by unfold chkE; cases chkB l wn g k <;> rfl
set_option maxRecDepth 100000 in
set_option maxHeartbeats 1000000 in
theorem check_any (l wn g k : Int) (w : World) : Calls Try.prog 26 #[.agg #[.int .i64 l, .int .i64 wn, .int .i64 g, .int .i64 k]] w fun x w' => x = .returned (.int .i64 (chkE l wn g k)) ∧ Below w.heap.size w w' := by
  have hb0 := below_alloc w (.cells #[.int .i64 l, .int .i64 wn, .int .i64 g, .int .i64 k] 53)
  go_enter Try.func26, Try.ntmps26
  go_wp2_with fail
  refine (within_any _ _ _ _).mono ?_
  rintro x w1 ⟨rfl, rfl⟩
  cases q0 : withinB l 1 1073741824
  · go_wp2_with fail
    go_ret
    exact ⟨by rw [show chkE l wn g k = 1 from by simp [chkE, chkB, q0]]; rfl, hb0⟩
  go_wp2_with fail
  refine (within_any _ _ _ _).mono ?_
  rintro x w1 ⟨rfl, rfl⟩
  cases q1 : withinB wn 0 l
  · go_wp2_with fail
    go_ret
    exact ⟨by rw [show chkE l wn g k = 1 from by simp [chkE, chkB, q0, q1]]; rfl, hb0⟩
  go_wp2_with fail
  refine (within_any _ _ _ _).mono ?_
  rintro x w1 ⟨rfl, rfl⟩
  cases q2 : withinB g 0 1073741824
  · go_wp2_with fail
    go_ret
    exact ⟨by rw [show chkE l wn g k = 1 from by simp [chkE, chkB, q0, q1, q2]]; rfl, hb0⟩
  go_wp2_with fail
  refine (within_any _ _ _ _).mono ?_
  rintro x w1 ⟨rfl, rfl⟩
  cases q3 : withinB k 0 1073741824
  · go_wp2_with fail
    go_ret
    exact ⟨by rw [show chkE l wn g k = 1 from by simp [chkE, chkB, q0, q1, q2, q3]]; rfl, hb0⟩
  go_wp2_with fail
  go_ret
  exact ⟨by rw [show chkE l wn g k = 0 from by simp [chkE, chkB, q0, q1, q2, q3]]; rfl, hb0⟩

/-- A plan and a run, boxed. -/
structure PR (w V : World) (a b : Nat) (l wn g k f c : Int) : Prop where
  bp : Bk V a 53 #[.int .i64 l, .int .i64 wn, .int .i64 g, .int .i64 k]
  br : Bk V b 54 #[.int .i64 f, .int .i64 c]
  low : Below w.heap.size w V
theorem PR.next {w V V' : World} {a b : Nat} {l wn g k f c : Int} (h : PR w V a b l wn g k f c) (hb : Below V.heap.size V V') : PR w V' a b l wn g k f c := ⟨h.bp.next hb, h.br.next hb, bmore h.low hb⟩
theorem PR.alloc {w V : World} {a b : Nat} {l wn g k f c : Int} (h : PR w V a b l wn g k f c) (o : Obj) : PR w (V.alloc o) a b l wn g k f c := h.next (below_alloc V o)
theorem PR.cells {w V : World} {a b : Nat} {l wn g k f c : Int} (h : PR w V a b l wn g k f c) : V.cell? ⟨a, 0, none⟩ = some (.int .i64 l) ∧ V.cell? ⟨a, 1, none⟩ = some (.int .i64 wn) ∧ V.cell? ⟨a, 2, none⟩ = some (.int .i64 g) ∧ V.cell? ⟨a, 3, none⟩ = some (.int .i64 k) ∧ V.cell? ⟨b, 0, none⟩ = some (.int .i64 f) ∧ V.cell? ⟨b, 1, none⟩ = some (.int .i64 c) :=
  ⟨h.bp.cell 0 _ rfl, h.bp.cell 1 _ rfl, h.bp.cell 2 _ rfl, h.bp.cell 3 _ rfl, h.br.cell 0 _ rfl, h.br.cell 1 _ rfl⟩
theorem PR.new (w : World) (l wn g k f c : Int) : PR w ((w.alloc (.cells #[.int .i64 l, .int .i64 wn, .int .i64 g, .int .i64 k] 53)).alloc (.cells #[.int .i64 f, .int .i64 c] 54)) w.heap.size (w.heap.size + 1) l wn g k f c := by
  refine ⟨(Bk.new _ _ _).alloc _, ?_, (below_alloc _ _).alloc (by simp) _⟩
  have := Bk.new (w.alloc (.cells #[.int .i64 l, .int .i64 wn, .int .i64 g, .int .i64 k] 53)) 54 #[.int .i64 f, .int .i64 c]
  rw [size_alloc] at this
  exact this

/-- May a plan and a run be? -/
def mayB (l wn g k f c : Int) : Bool := chkB l wn g k && withinB f 0 1099511627776 && (decide (c = -1) || withinB c f 1099511627776)
set_option maxRecDepth 100000 in
set_option maxHeartbeats 1000000 in
theorem may_any (l wn g k f c : Int) (w : World) : Calls Try.prog 46 #[.agg #[.int .i64 l, .int .i64 wn, .int .i64 g, .int .i64 k], .agg #[.int .i64 f, .int .i64 c]] w fun x w' => x = .returned (.bool (mayB l wn g k f c)) ∧ Below w.heap.size w w' := by
  have st := PR.new w l wn g k f c
  go_enter Try.func46, Try.ntmps46
  go_wp2_with fail
  refine (check_any _ _ _ _ _).mono ?_
  rintro x w1 ⟨rfl, hb⟩
  replace st := st.next hb
  obtain ⟨a0, a1, a2, a3, b0, b1⟩ := st.cells
  clear hb
  have e0 := chkE_zero l wn g k
  cases q1 : chkB l wn g k
  · rw [q1] at e0
    go_wp2_with fail
    go_ret
    exact ⟨by rw [show mayB l wn g k f c = false from by simp [mayB, q1]]; rfl, st.low⟩
  rw [q1] at e0
  go_wp2_with fail
  refine (within_any _ _ _ _).mono ?_
  rintro x w2 ⟨rfl, rfl⟩
  cases q2 : withinB f 0 1099511627776
  · go_wp2_with fail
    go_ret
    exact ⟨by rw [show mayB l wn g k f c = false from by simp [mayB, q1, q2]]; rfl, st.low⟩
  by_cases hc : c = -1
  · have t0 : (c == -1) = true := by simpa using hc
    have T0 : decide (c = -1) = true := by simpa using hc
    clear hc
    go_wp2_with fail
    go_ret
    exact ⟨by rw [show mayB l wn g k f c = true from by unfold mayB; rw [q1, q2, T0]; rfl]; rfl, st.low⟩
  · have t0 : (c == -1) = false := by simpa using hc
    have T0 : decide (c = -1) = false := by simpa using hc
    clear hc
    go_wp2_with fail
    refine (within_any _ _ _ _).mono ?_
    rintro x w3 ⟨rfl, rfl⟩
    go_wp2_with fail
    go_ret
    exact ⟨by rw [show mayB l wn g k f c = withinB c f 1099511627776 from by unfold mayB; rw [q1, q2, T0]; rfl]; rfl, st.low⟩

theorem within_iff {n l m : Int} : withinB n l m = true ↔ l ≤ n ∧ n ≤ m := by simp [withinB]
/-- What it is to be. -/
theorem may_iff {l wn g k f c : Int} : mayB l wn g k f c = true ↔ (1 ≤ l ∧ l ≤ 1073741824) ∧ (0 ≤ wn ∧ wn ≤ l) ∧ (0 ≤ g ∧ g ≤ 1073741824) ∧ (0 ≤ k ∧ k ≤ 1073741824) ∧ (0 ≤ f ∧ f ≤ 1099511627776) ∧ (c = -1 ∨ (f ≤ c ∧ c ≤ 1099511627776)) := by
  simp [mayB, chkB, within_iff, and_assoc]
/-- When a step is asked to end. -/
def endV (l f c : Int) : Int := if c = -1 then f + l else min (f + l) c
def endE (l wn g k f c : Int) : Int := if mayB l wn g k f c then endV l f c else -1
set_option maxRecDepth 100000 in
set_option maxHeartbeats 1000000 in
theorem end_any (l wn g k f c : Int) (w : World) : Calls Try.prog 28 #[.agg #[.int .i64 l, .int .i64 wn, .int .i64 g, .int .i64 k], .agg #[.int .i64 f, .int .i64 c]] w fun x w' => x = .returned (.int .i64 (endE l wn g k f c)) ∧ Below w.heap.size w w' := by
  have st := PR.new w l wn g k f c
  go_enter Try.func28, Try.ntmps28
  go_wp2_with fail
  refine (may_any _ _ _ _ _ _ _).mono ?_
  rintro x w1 ⟨rfl, hb⟩
  replace st := st.next hb
  obtain ⟨a0, a1, a2, a3, b0, b1⟩ := st.cells
  clear hb
  cases q1 : mayB l wn g k f c
  · go_wp2_with fail
    go_ret
    exact ⟨by rw [show endE l wn g k f c = -1 from by simp [endE, q1]]; rfl, st.low⟩
  obtain ⟨⟨h1, h2⟩, ⟨h3, h4⟩, ⟨h5, h6⟩, ⟨h7, h8⟩, ⟨h9, h10⟩, h11⟩ := may_iff.1 q1
  by_cases hc : c = -1
  · have t0 : (c == -1) = true := by simpa using hc
    have e1 := Lib.hid (show endE l wn g k f c = f + l from by unfold endE endV; rw [if_pos q1, if_pos hc])
    clear hc h11
    go_wp2_with fail
    go_ret
    exact ⟨by rw [e1.out]; rfl, st.low⟩
  · have t0 : (c == -1) = false := by simpa using hc
    by_cases hlt : c < f + l
    · have e1 := Lib.hid (show endE l wn g k f c = c from by unfold endE endV; rw [if_pos q1, if_neg hc]; omega)
      clear hc h11
      go_wp2_with fail
      go_ret
      exact ⟨by rw [e1.out]; rfl, st.low⟩
    · have e1 := Lib.hid (show endE l wn g k f c = f + l from by unfold endE endV; rw [if_pos q1, if_neg hc]; omega)
      clear hc h11
      go_wp2_with fail
      go_ret
      exact ⟨by rw [e1.out]; rfl, st.low⟩
/-- When each stage begins. -/
def rungV (l wn g k f c : Int) : Int × Int × Int × Int × Int := (f, min (f + l - wn) (endV l f c), endV l f c, endV l f c + g, endV l f c + g + k)
def rungE (l wn g k f c : Int) : Int × Int × Int × Int × Int := if mayB l wn g k f c then rungV l wn g k f c else (-1, -1, -1, -1, -1)
abbrev aggR (r : Int × Int × Int × Int × Int) : Value := .agg #[.int .i64 r.1, .int .i64 r.2.1, .int .i64 r.2.2.1, .int .i64 r.2.2.2.1, .int .i64 r.2.2.2.2]
theorem end_range {l wn g k f c : Int} (h : mayB l wn g k f c = true) : f ≤ endV l f c ∧ endV l f c ≤ f + l := by
  obtain ⟨⟨h1, h2⟩, ⟨h3, h4⟩, ⟨h5, h6⟩, ⟨h7, h8⟩, ⟨h9, h10⟩, h11⟩ := may_iff.1 h
  unfold endV
  split <;> omega
/-- Five cells, stored one by one. -/
abbrev put5 (w : World) (g : Nat) (a b c d e : Value) : World := ((((w.setCell ⟨g, 0, none⟩ a).setCell ⟨g, 1, none⟩ b).setCell ⟨g, 2, none⟩ c).setCell ⟨g, 3, none⟩ d).setCell ⟨g, 4, none⟩ e
theorem Bk.set {w : World} {g : Nat} {t : TypeId} {cs : Array Value} (h : Bk w g t cs) (i : Nat) (v : Value) : Bk (w.setCell ⟨g, i, none⟩ v) g t (cs.set! i v) := by
  have := heap_setCell_same w g i _ t v h
  simpa [Bk] using this
theorem Bk.put5 {w : World} {g : Nat} {t : TypeId} {x0 x1 x2 x3 x4 a b c d e : Value} (h : Bk w g t #[x0, x1, x2, x3, x4]) : Bk (put5 w g a b c d e) g t #[a, b, c, d, e] := by
  have := ((((h.set 0 a).set 1 b).set 2 c).set 3 d).set 4 e
  simpa using this
theorem below_put5 {B : Nat} {w V : World} {g : Nat} {a b c d e : Value} (h : Below B w V) (hg : B ≤ g) : Below B w (put5 V g a b c d e) :=
  ((((h.setCell hg a).setCell hg b).setCell hg c).setCell hg d).setCell hg e
theorem ret5 {V : World} {b : Nat} {r0 r1 r2 r3 r4 : Int} (h : Bk V b 57 #[.int .i64 r0, .int .i64 r1, .int .i64 r2, .int .i64 r3, .int .i64 r4]) : V.cell? ⟨b, 0, none⟩ = some (.int .i64 r0) ∧ V.cell? ⟨b, 1, none⟩ = some (.int .i64 r1) ∧ V.cell? ⟨b, 2, none⟩ = some (.int .i64 r2) ∧ V.cell? ⟨b, 3, none⟩ = some (.int .i64 r3) ∧ V.cell? ⟨b, 4, none⟩ = some (.int .i64 r4) :=
  ⟨h.cell 0 _ rfl, h.cell 1 _ rfl, h.cell 2 _ rfl, h.cell 3 _ rfl, h.cell 4 _ rfl⟩
set_option maxRecDepth 100000 in
set_option maxHeartbeats 1000000 in
theorem rungs_any (l wn g k f c : Int) (w : World) : Calls Try.prog 25 #[.agg #[.int .i64 l, .int .i64 wn, .int .i64 g, .int .i64 k], .agg #[.int .i64 f, .int .i64 c]] w fun x w' => x = .returned (aggR (rungE l wn g k f c)) ∧ Below w.heap.size w w' := by
  have st := (PR.new w l wn g k f c).alloc (.cells #[.int .i64 0, .int .i64 0, .int .i64 0, .int .i64 0, .int .i64 0] 57)
  have kr := Bk.new ((w.alloc (.cells #[.int .i64 l, .int .i64 wn, .int .i64 g, .int .i64 k] 53)).alloc (.cells #[.int .i64 f, .int .i64 c] 54)) 57 #[.int .i64 0, .int .i64 0, .int .i64 0, .int .i64 0, .int .i64 0]
  rw [size_alloc, size_alloc] at kr
  go_enter Try.func25, Try.ntmps25
  go_wp2_with fail
  refine (may_any _ _ _ _ _ _ _).mono ?_
  rintro x w1 ⟨rfl, hb⟩
  replace st := st.next hb
  replace kr := kr.next hb
  obtain ⟨a0, a1, a2, a3, b0, b1⟩ := st.cells
  clear hb
  cases q1 : mayB l wn g k f c
  · have c0 := kr.cell 0 _ rfl
    have c1 := kr.cell 1 _ rfl
    have c2 := kr.cell 2 _ rfl
    have c3 := kr.cell 3 _ rfl
    have c4 := kr.cell 4 _ rfl
    have f0 := kr.frozen 0
    have f1 := kr.frozen 1
    have f2 := kr.frozen 2
    have f3 := kr.frozen 3
    have f4 := kr.frozen 4
    have kz := kr.put5 (a := .int .i64 (-1)) (b := .int .i64 (-1)) (c := .int .i64 (-1)) (d := .int .i64 (-1)) (e := .int .i64 (-1))
    have lz := below_put5 (a := .int .i64 (-1)) (b := .int .i64 (-1)) (c := .int .i64 (-1)) (d := .int .i64 (-1)) (e := .int .i64 (-1)) st.low (show w.heap.size ≤ w.heap.size + 1 + 1 by omega)
    go_wp2_with fail
    obtain ⟨d0, d1, d2, d3, d4⟩ := ret5 kz
    rw [show rungE l wn g k f c = (-1, -1, -1, -1, -1) from by simp [rungE, q1]]
    exact bodyPost_ret (v := aggR (-1, -1, -1, -1, -1)) (by simp [results, Try.results25, go_sem, d0, d1, d2, d3, d4]) rfl ⟨rfl, lz⟩
  obtain ⟨⟨h1, h2⟩, ⟨h3, h4⟩, ⟨h5, h6⟩, ⟨h7, h8⟩, ⟨h9, h10⟩, h11⟩ := may_iff.1 q1
  clear h11
  obtain ⟨h12, h13⟩ := end_range q1
  obtain ⟨n, hn⟩ : ∃ n, n = endV l f c := ⟨_, rfl⟩
  rw [← hn] at h12 h13
  have HN := Lib.hid hn
  have HE := Lib.hid (show endE l wn g k f c = n from by unfold endE; rw [if_pos q1, hn])
  clear hn
  have K := Lib.hid (end_any l wn g k f c)
  rw [HE.out] at K
  go_wp2_with fail
  refine (K.out _).mono ?_
  rintro x w2 ⟨rfl, hb⟩
  replace st := st.next hb
  replace kr := kr.next hb
  clear a0 a1 a2 a3 b0 b1
  obtain ⟨a0, a1, a2, a3, b0, b1⟩ := st.cells
  clear hb K
  have c0 := kr.cell 0 _ rfl
  have c1 := kr.cell 1 _ rfl
  have c2 := kr.cell 2 _ rfl
  have c3 := kr.cell 3 _ rfl
  have c4 := kr.cell 4 _ rfl
  have f0 := kr.frozen 0
  have f1 := kr.frozen 1
  have f2 := kr.frozen 2
  have f3 := kr.frozen 3
  have f4 := kr.frozen 4
  by_cases hlt : n < f + l - wn
  · have e2 := Lib.hid (show rungE l wn g k f c = (f, n, n, n + g, n + g + k) from by unfold rungE rungV; rw [if_pos q1, ← HN.out]; simp only [Prod.mk.injEq, true_and, and_true]; omega)
    have kz := kr.put5 (a := .int .i64 f) (b := .int .i64 (n)) (c := .int .i64 n) (d := .int .i64 (n + g)) (e := .int .i64 (n + g + k))
    have lz := below_put5 (a := .int .i64 f) (b := .int .i64 (n)) (c := .int .i64 n) (d := .int .i64 (n + g)) (e := .int .i64 (n + g + k)) st.low (show w.heap.size ≤ w.heap.size + 1 + 1 by omega)
    go_wp2_with fail
    obtain ⟨d0, d1, d2, d3, d4⟩ := ret5 kz
    rw [e2.out]
    exact bodyPost_ret (v := aggR (f, n, n, n + g, n + g + k)) (by simp [results, Try.results25, go_sem, d0, d1, d2, d3, d4]) rfl ⟨rfl, lz⟩
  · have e2 := Lib.hid (show rungE l wn g k f c = (f, f + l - wn, n, n + g, n + g + k) from by unfold rungE rungV; rw [if_pos q1, ← HN.out]; simp only [Prod.mk.injEq, true_and, and_true]; omega)
    have kz := kr.put5 (a := .int .i64 f) (b := .int .i64 (f + l - wn)) (c := .int .i64 n) (d := .int .i64 (n + g)) (e := .int .i64 (n + g + k))
    have lz := below_put5 (a := .int .i64 f) (b := .int .i64 (f + l - wn)) (c := .int .i64 n) (d := .int .i64 (n + g)) (e := .int .i64 (n + g + k)) st.low (show w.heap.size ≤ w.heap.size + 1 + 1 by omega)
    go_wp2_with fail
    obtain ⟨d0, d1, d2, d3, d4⟩ := ret5 kz
    rw [e2.out]
    exact bodyPost_ret (v := aggR (f, f + l - wn, n, n + g, n + g + k)) (by simp [results, Try.results25, go_sem, d0, d1, d2, d3, d4]) rfl ⟨rfl, lz⟩
end Go.Proofs.Ytinbaepligploaa
