/- Blocks in memory; acct: Add, Times, mayBe, Of, own; the document's. -/
import Derived.Test.YtjolkcomlindhaaRows
import Derived.WalkKit
import Derived.WalkSpells
import Derived.WalkLawsBesides
import Derived.Laws.Rows
import Derived.Deep.Draws
import Derived.StillTailTactics
import Derived.OwnWalk
import Derived.Laws.CopyOwn
import Derived.BigQuiet
import Derived.Deep.QuietTactic
import Derived.IntWalk
import Derived.Lib.Hide
import Derived.Deep.RegionHeld3
namespace Go.Proofs.Ytjolkcomlindhaa
open Go.RowKit

/-- Block g is just these cells. -/
def Bk (w : World) (g : Nat) (t : TypeId) (cs : Array Value) : Prop := w.heap[g]? = some (.cells cs t (0, 0))
section
variable {w w' : World} {B g b : Nat} {t : TypeId} {cs : Array Value}
theorem Bk.lt (h : Bk w g t cs) : g < w.heap.size := (Array.getElem?_eq_some_iff.1 h).1
theorem Bk.cell (h : Bk w g t cs) (i : Nat) (v : Value) (hv : cs[i]? = some v) : w.cell? ⟨g, i, none⟩ = some v := (cell_of_row w g i cs t (0, 0) h).trans hv
theorem Bk.frozen (h : Bk w g t cs) (i : Nat) : w.frozen? ⟨g, i, none⟩ = false := frozen_of_row w g i cs t h
theorem Bk.below (h : Bk w g t cs) (hb : Below B w w') (hg : g < B) : Bk w' g t cs := (hb.block g hg).trans h
theorem Bk.next (h : Bk w g t cs) (hb : Below w.heap.size w w') : Bk w' g t cs := h.below hb h.lt
theorem Bk.alloc (h : Bk w g t cs) (o : Obj) : Bk (w.alloc o) g t cs := (Below.heap_alloc w o g h.lt).trans h
theorem Bk.new (w : World) (t : TypeId) (cs : Array Value) : Bk (w.alloc (.cells cs t)) w.heap.size t cs := heap_alloc_new w _
theorem Bk.grown (h : Bk w g t cs) (hg : w.grownBy w' (some b)) (hne : g ≠ b) : Bk w' g t cs := (hg.block g h.lt (by simpa using hne)).trans h
theorem Bk.drew (h : Bk w g t cs) : Bk w.drew g t cs := h
theorem Bk.hid {w2 : World} (h : Bk w g t cs) (e : Hid (w2 = w.drew)) : Bk w2 g t cs := by rw [e.out]; exact h.drew
end
theorem bmore {a b c : World} (h : Below a.heap.size a b) (k : Below b.heap.size b c) : Below a.heap.size a c := h.trans (k.mono h.size)
theorem size_alloc (w : World) (o : Obj) : (w.alloc o).heap.size = w.heap.size + 1 := by simp
theorem only_of_below {a w : World} (h : Below a.heap.size a w) : a.grownBy w none := ⟨h.os, h.tape, h.output, h.size, fun i hi _ => h.block i hi⟩
theorem below_alloc (w : World) (o : Obj) : Below w.heap.size w (w.alloc o) := (Below.refl _ _).alloc (Nat.le_refl _) o
/-- A region that draws its order, reads and calls quietly, and ends in a forced tail: its world under a name. -/
theorem region_tail {P : Program} {id : Nat} {Q : Exit → Act → World → Prop} {a : Act} {w : World} {l : List Oper} (n : Nat) (hm : P.follows .mixedOrders = true) (hB : Region.lexTailB .any l.toArray n = true)
    (h : ∀ w2, Hid (w2 = w.drew) → wpStill P l.toArray w2 (fun a' => wpList P l.toArray Q (l.drop n) a' w2) (l.take n) a) : (Code.region id l.toArray true).wp P Q a w :=
  wp_region_still_tail n hm hB (h _ rfl)
theorem region_still {P : Program} {id : Nat} {Q : Exit → Act → World → Prop} {a : Act} {w : World} {l : List Oper} (hm : P.follows .mixedOrders = true) (hB : Region.lexB .any l.toArray = true)
    (h : ∀ w2, Hid (w2 = w.drew) → wpStill P l.toArray w2 (fun a' => Q .normal a' w2) l a) : (Code.region id l.toArray true).wp P Q a w :=
  wp_region_still_lit hm hB (h _ rfl)
theorem below_hid {B : Nat} {a w w2 : World} (h : Below B a w) (e : Hid (w2 = w.drew)) : Below B a w2 := by rw [e.out]; exact h.drew

theorem block_add (a : Addr) (n : Nat) : (a.add n).block = a.block := by unfold Addr.add; split <;> rfl
/-- A slice of ints, as its numbers. -/
def IntsAt (w : World) (A : Option Addr) (zs : List Int) : Prop := zs = [] ∨ ∃ ad, A = some ad ∧ ad.block < w.heap.size ∧ ∀ j, j < zs.length → w.cell? (ad.add j) = some (.int .i64 (zs.getD j 0))
theorem IntsAt.at_ {w : World} {A : Option Addr} {zs : List Int} (h : IntsAt w A zs) {k : Nat} (hk : k < zs.length) : ∃ ad, A = some ad ∧ ad.block < w.heap.size ∧ w.cell? (ad.add k) = some (.int .i64 (zs.getD k 0)) := by
  rcases h with rfl | ⟨ad, rfl, hb, hc⟩
  · cases hk
  · exact ⟨ad, rfl, hb, hc k hk⟩
theorem IntsAt.below {w w' : World} {B : Nat} {A : Option Addr} {zs : List Int} (h : IntsAt w A zs) (hb : Below B w w') (hB : ∀ ad, A = some ad → ad.block < B) : IntsAt w' A zs := by
  rcases h with rfl | ⟨ad, rfl, h1, h2⟩
  · exact .inl rfl
  · exact .inr ⟨ad, rfl, Nat.lt_of_lt_of_le h1 hb.size, fun j hj => (hb.cell (p := ad.add j) (by rw [block_add]; exact hB ad rfl)).trans (h2 j hj)⟩
theorem IntsAt.next {w w' : World} {A : Option Addr} {zs : List Int} (h : IntsAt w A zs) (hb : Below w.heap.size w w') : IntsAt w' A zs := by
  rcases h with rfl | ⟨ad, rfl, h1, h2⟩
  · exact .inl rfl
  · exact .inr ⟨ad, rfl, Nat.lt_of_lt_of_le h1 hb.size, fun j hj => (hb.cell (p := ad.add j) (by rw [block_add]; exact h1)).trans (h2 j hj)⟩

theorem Bk.set {w : World} {g : Nat} {t : TypeId} {cs : Array Value} (h : Bk w g t cs) (i : Nat) (v : Value) : Bk (w.setCell ⟨g, i, none⟩ v) g t (cs.set! i v) := by
  have := heap_setCell_same w g i _ t v h
  simpa [Bk] using this
def addE (a b : Int) : Int := min (max a 0 + max b 0) 9223372036854775807
def timesE (a b : Int) : Int := min (max a 0 * max b 0) 9223372036854775807
theorem most_any (w : World) : Calls Try.prog 47 #[] w fun x w' => x = .returned (.int .i64 9223372036854775807) ∧ w = w' := by
  go_enter Try.func47, Try.ntmps47
  go_wp2_with fail
  go_ret
  exact ⟨rfl, rfl⟩

/-- An int. -/
abbrev wf (n : Int) : Prop := (Lit.int .i64 n).wf = true
theorem wf_iff {n : Int} : wf n ↔ -9223372036854775808 ≤ n ∧ n ≤ 9223372036854775807 := by
  simp [wf, Lit.wf, show IntKind.i64.min = -9223372036854775808 from rfl, show IntKind.i64.max = 9223372036854775807 from rfl]
set_option maxRecDepth 100000 in
set_option maxHeartbeats 400000 in
theorem add_any (a b : Int) (ha : wf a) (hb : wf b) (w : World) : Calls Try.prog 17 #[.int .i64 a, .int .i64 b] w fun x w' => x = .returned (.int .i64 (addE a b)) ∧ w = w' := by
  obtain ⟨a1, a2⟩ := wf_iff.1 ha
  obtain ⟨b1, b2⟩ := wf_iff.1 hb
  clear ha hb
  have m0 : wrap64 9223372036854775807 = 9223372036854775807 := IntWalk.wrap64_in _ (by omega)
  by_cases ha : a < 0 <;> by_cases hb : b < 0
  · have e : addE a b = 0 := by unfold addE; omega
    rw [e]
    go_enter Try.func17, Try.ntmps17
    go_wp2_with fail
    go_ret
    exact ⟨rfl, rfl⟩
  · have e : addE a b = b := by unfold addE; omega
    rw [e]
    have e1 : wrap64 (9223372036854775807 - b) = 9223372036854775807 - b := IntWalk.wrap64_in _ (by omega)
    have t1 : decide (9223372036854775807 - b < 0) = false := by simp; omega
    have e2 : wrap64 b = b := IntWalk.wrap64_in _ (by omega)
    go_enter Try.func17, Try.ntmps17
    go_wp2_with fail
    go_ret
    exact ⟨rfl, rfl⟩
  · have e : addE a b = a := by unfold addE; omega
    rw [e]
    have t1 : decide (9223372036854775807 < a) = false := by simp; omega
    have e2 : wrap64 a = a := IntWalk.wrap64_in _ (by omega)
    go_enter Try.func17, Try.ntmps17
    go_wp2_with fail
    go_ret
    exact ⟨rfl, rfl⟩
  have e1 : wrap64 (9223372036854775807 - b) = 9223372036854775807 - b := IntWalk.wrap64_in _ (by omega)
  by_cases h : 9223372036854775807 - b < a
  · have e : addE a b = 9223372036854775807 := by unfold addE; omega
    rw [e]
    have t1 : decide (9223372036854775807 - b < a) = true := by simp; omega
    go_enter Try.func17, Try.ntmps17
    go_wp2_with fail
    go_ret
    exact ⟨rfl, rfl⟩
  · have e : addE a b = a + b := by unfold addE; omega
    rw [e]
    have t1 : decide (9223372036854775807 - b < a) = false := by simp; omega
    have e2 : wrap64 (a + b) = a + b := IntWalk.wrap64_in _ (by omega)
    go_enter Try.func17, Try.ntmps17
    go_wp2_with fail
    go_ret
    exact ⟨rfl, rfl⟩
set_option maxRecDepth 100000 in
set_option maxHeartbeats 400000 in
theorem radd_any (a b : Int) (ha : wf a) (hb : wf b) (w : World) : Calls Try.prog 18 #[.int .i64 a, .int .i64 b] w fun x w' => x = .returned (.int .i64 (addE a b)) ∧ w = w' := by
  obtain ⟨a1, a2⟩ := wf_iff.1 ha
  obtain ⟨b1, b2⟩ := wf_iff.1 hb
  clear ha hb
  have m0 : wrap64 9223372036854775807 = 9223372036854775807 := IntWalk.wrap64_in _ (by omega)
  by_cases ha : a < 0 <;> by_cases hb : b < 0
  · have e : addE a b = 0 := by unfold addE; omega
    rw [e]
    go_enter Try.func18, Try.ntmps18
    go_wp2_with fail
    refine (most_any _).mono ?_
    rintro x w1 ⟨rfl, rfl⟩
    go_wp2_with fail
    go_ret
    exact ⟨rfl, rfl⟩
  · have e : addE a b = b := by unfold addE; omega
    rw [e]
    have e1 : wrap64 (9223372036854775807 - b) = 9223372036854775807 - b := IntWalk.wrap64_in _ (by omega)
    have t1 : decide (9223372036854775807 - b < 0) = false := by simp; omega
    have e2 : wrap64 b = b := IntWalk.wrap64_in _ (by omega)
    go_enter Try.func18, Try.ntmps18
    go_wp2_with fail
    refine (most_any _).mono ?_
    rintro x w1 ⟨rfl, rfl⟩
    go_wp2_with fail
    go_ret
    exact ⟨rfl, rfl⟩
  · have e : addE a b = a := by unfold addE; omega
    rw [e]
    have t1 : decide (9223372036854775807 < a) = false := by simp; omega
    have e2 : wrap64 a = a := IntWalk.wrap64_in _ (by omega)
    go_enter Try.func18, Try.ntmps18
    go_wp2_with fail
    refine (most_any _).mono ?_
    rintro x w1 ⟨rfl, rfl⟩
    go_wp2_with fail
    go_ret
    exact ⟨rfl, rfl⟩
  have e1 : wrap64 (9223372036854775807 - b) = 9223372036854775807 - b := IntWalk.wrap64_in _ (by omega)
  by_cases h : 9223372036854775807 - b < a
  · have e : addE a b = 9223372036854775807 := by unfold addE; omega
    rw [e]
    have t1 : decide (9223372036854775807 - b < a) = true := by simp; omega
    go_enter Try.func18, Try.ntmps18
    go_wp2_with fail
    refine (most_any _).mono ?_
    rintro x w1 ⟨rfl, rfl⟩
    go_wp2_with fail
    refine (most_any _).mono ?_
    rintro x w1 ⟨rfl, rfl⟩
    go_wp2_with fail
    go_ret
    exact ⟨rfl, rfl⟩
  · have e : addE a b = a + b := by unfold addE; omega
    rw [e]
    have t1 : decide (9223372036854775807 - b < a) = false := by simp; omega
    have e2 : wrap64 (a + b) = a + b := IntWalk.wrap64_in _ (by omega)
    go_enter Try.func18, Try.ntmps18
    go_wp2_with fail
    refine (most_any _).mono ?_
    rintro x w1 ⟨rfl, rfl⟩
    go_wp2_with fail
    go_ret
    exact ⟨rfl, rfl⟩
theorem quo_lt (a b : Int) (hb : 0 < b) : Int.tdiv 9223372036854775807 b < a ↔ 9223372036854775807 < a * b := by
  rw [Int.tdiv_eq_ediv_of_nonneg (by decide)]
  exact Int.ediv_lt_iff_lt_mul hb
theorem quo_in (b : Int) (hb : 0 < b) : 0 ≤ Int.tdiv 9223372036854775807 b ∧ Int.tdiv 9223372036854775807 b ≤ 9223372036854775807 := by
  rw [Int.tdiv_eq_ediv_of_nonneg (by decide)]
  exact ⟨Int.ediv_nonneg (by decide) (by omega), Int.ediv_le_self _ (by decide)⟩
theorem times_neg (a b : Int) (h : a ≤ 0 ∨ b ≤ 0) : timesE a b = 0 := by
  unfold timesE
  rcases h with h | h
  · rw [Int.max_eq_right h, Int.zero_mul]; rfl
  · rw [Int.max_eq_right h, Int.mul_zero]; rfl
theorem times_pos (a b : Int) (ha : 0 < a) (hb : 0 < b) : timesE a b = min (a * b) 9223372036854775807 := by
  unfold timesE
  rw [Int.max_eq_left (by omega), Int.max_eq_left (by omega)]
set_option maxRecDepth 100000 in
set_option maxHeartbeats 400000 in
theorem times_any (a b : Int) (ha : wf a) (hb : wf b) (w : World) : Calls Try.prog 19 #[.int .i64 a, .int .i64 b] w fun x w' => x = .returned (.int .i64 (timesE a b)) ∧ w = w' := by
  obtain ⟨a1, a2⟩ := wf_iff.1 ha
  obtain ⟨b1, b2⟩ := wf_iff.1 hb
  clear ha hb
  by_cases hab1 : a < 0 ∧ b < 0
  · obtain ⟨ha, hb⟩ := hab1
    rw [times_neg a b (by omega)]
    go_enter Try.func19, Try.ntmps19
    go_wp2_with fail
    go_ret
    exact ⟨rfl, rfl⟩
  by_cases hab2 : a < 0 ∧ b = 0
  · obtain ⟨ha, hb⟩ := hab2
    clear hab1
    rw [times_neg a b (by omega)]
    subst hb
    go_enter Try.func19, Try.ntmps19
    go_wp2_with fail
    go_ret
    exact ⟨rfl, rfl⟩
  by_cases hab3 : a < 0 ∧ 0 < b
  · obtain ⟨ha, hb⟩ := hab3
    clear hab1 hab2
    rw [times_neg a b (by omega)]
    obtain ⟨q1, q2⟩ := quo_in b (by omega)
    have eq0 := Int.tdiv_eq_ediv_of_nonneg (a := 9223372036854775807) (b := b) (by decide)
    obtain ⟨q, hq⟩ : ∃ q, q = Int.tdiv 9223372036854775807 b := ⟨_, rfl⟩
    rw [← hq] at q1 q2 eq0
    have e1 : Int.tdiv 9223372036854775807 b = q := hq.symm
    have e0 : 9223372036854775807 / b = q := eq0.symm
    clear hq eq0
    have e2 : wrap64 q = q := IntWalk.wrap64_in _ (by omega)
    have t : decide (q < 0) = false := by simp; omega
    go_enter Try.func19, Try.ntmps19
    go_wp2_with fail
    go_ret
    exact ⟨rfl, rfl⟩
  by_cases hab4 : a = 0 ∧ b < 0
  · obtain ⟨ha, hb⟩ := hab4
    clear hab1 hab2 hab3
    rw [times_neg a b (by omega)]
    subst ha
    go_enter Try.func19, Try.ntmps19
    go_wp2_with fail
    go_ret
    exact ⟨rfl, rfl⟩
  by_cases hab5 : a = 0 ∧ b = 0
  · obtain ⟨ha, hb⟩ := hab5
    clear hab1 hab2 hab3 hab4
    rw [times_neg a b (by omega)]
    subst ha
    subst hb
    go_enter Try.func19, Try.ntmps19
    go_wp2_with fail
    go_ret
    exact ⟨rfl, rfl⟩
  by_cases hab6 : a = 0 ∧ 0 < b
  · obtain ⟨ha, hb⟩ := hab6
    clear hab1 hab2 hab3 hab4 hab5
    rw [times_neg a b (by omega)]
    subst ha
    obtain ⟨q1, q2⟩ := quo_in b (by omega)
    have eq0 := Int.tdiv_eq_ediv_of_nonneg (a := 9223372036854775807) (b := b) (by decide)
    obtain ⟨q, hq⟩ : ∃ q, q = Int.tdiv 9223372036854775807 b := ⟨_, rfl⟩
    rw [← hq] at q1 q2 eq0
    have e1 : Int.tdiv 9223372036854775807 b = q := hq.symm
    have e0 : 9223372036854775807 / b = q := eq0.symm
    clear hq eq0
    have e2 : wrap64 q = q := IntWalk.wrap64_in _ (by omega)
    have t : decide (q < 0) = false := by simp; omega
    go_enter Try.func19, Try.ntmps19
    go_wp2_with fail
    go_ret
    exact ⟨rfl, rfl⟩
  by_cases hab7 : 0 < a ∧ b < 0
  · obtain ⟨ha, hb⟩ := hab7
    clear hab1 hab2 hab3 hab4 hab5 hab6
    rw [times_neg a b (by omega)]
    go_enter Try.func19, Try.ntmps19
    go_wp2_with fail
    go_ret
    exact ⟨rfl, rfl⟩
  by_cases hab8 : 0 < a ∧ b = 0
  · obtain ⟨ha, hb⟩ := hab8
    clear hab1 hab2 hab3 hab4 hab5 hab6 hab7
    rw [times_neg a b (by omega)]
    subst hb
    go_enter Try.func19, Try.ntmps19
    go_wp2_with fail
    go_ret
    exact ⟨rfl, rfl⟩
  have ha : 0 < a := by omega
  have hb : 0 < b := by omega
  clear hab1 hab2 hab3 hab4 hab5 hab6 hab7 hab8
  obtain ⟨q1, q2⟩ := quo_in b (by omega)
  have eq0 := Int.tdiv_eq_ediv_of_nonneg (a := 9223372036854775807) (b := b) (by decide)
  have eq := quo_lt a b (by omega)
  obtain ⟨q, hq⟩ : ∃ q, q = Int.tdiv 9223372036854775807 b := ⟨_, rfl⟩
  rw [← hq] at q1 q2 eq0 eq
  have e1 : Int.tdiv 9223372036854775807 b = q := hq.symm
  have e0 : 9223372036854775807 / b = q := eq0.symm
  clear hq eq0
  have e2 : wrap64 q = q := IntWalk.wrap64_in _ (by omega)
  rw [times_pos a b (by omega) (by omega)]
  by_cases h : q < a
  · have := eq.1 h
    rw [show min (a * b) 9223372036854775807 = 9223372036854775807 from by omega]
    have t : decide (q < a) = true := by simpa using h
    clear this eq h
    go_enter Try.func19, Try.ntmps19
    go_wp2_with fail
    go_ret
    exact ⟨rfl, rfl⟩
  · have : ¬ (9223372036854775807 < a * b) := fun hh => h (eq.2 hh)
    have p0 : 0 < a * b := Int.mul_pos (by omega) (by omega)
    rw [show min (a * b) 9223372036854775807 = a * b from by omega]
    have e3 : wrap64 (a * b) = a * b := IntWalk.wrap64_in _ (by omega)
    have t : decide (q < a) = false := by simpa using h
    clear this eq p0 h
    go_enter Try.func19, Try.ntmps19
    go_wp2_with fail
    go_ret
    exact ⟨congrArg (fun z => Ending.returned (Value.int IntKind.i64 z)) e3, rfl⟩
set_option maxRecDepth 100000 in
set_option maxHeartbeats 400000 in
theorem rtimes_any (a b : Int) (ha : wf a) (hb : wf b) (w : World) : Calls Try.prog 20 #[.int .i64 a, .int .i64 b] w fun x w' => x = .returned (.int .i64 (timesE a b)) ∧ w = w' := by
  obtain ⟨a1, a2⟩ := wf_iff.1 ha
  obtain ⟨b1, b2⟩ := wf_iff.1 hb
  clear ha hb
  by_cases hab1 : a < 0 ∧ b < 0
  · obtain ⟨ha, hb⟩ := hab1
    rw [times_neg a b (by omega)]
    go_enter Try.func20, Try.ntmps20
    go_wp2_with fail
    go_ret
    exact ⟨rfl, rfl⟩
  by_cases hab2 : a < 0 ∧ b = 0
  · obtain ⟨ha, hb⟩ := hab2
    clear hab1
    rw [times_neg a b (by omega)]
    subst hb
    go_enter Try.func20, Try.ntmps20
    go_wp2_with fail
    go_ret
    exact ⟨rfl, rfl⟩
  by_cases hab3 : a < 0 ∧ 0 < b
  · obtain ⟨ha, hb⟩ := hab3
    clear hab1 hab2
    rw [times_neg a b (by omega)]
    go_enter Try.func20, Try.ntmps20
    go_wp2_with fail
    go_ret
    exact ⟨rfl, rfl⟩
  by_cases hab4 : a = 0 ∧ b < 0
  · obtain ⟨ha, hb⟩ := hab4
    clear hab1 hab2 hab3
    rw [times_neg a b (by omega)]
    subst ha
    go_enter Try.func20, Try.ntmps20
    go_wp2_with fail
    go_ret
    exact ⟨rfl, rfl⟩
  by_cases hab5 : a = 0 ∧ b = 0
  · obtain ⟨ha, hb⟩ := hab5
    clear hab1 hab2 hab3 hab4
    rw [times_neg a b (by omega)]
    subst ha
    subst hb
    go_enter Try.func20, Try.ntmps20
    go_wp2_with fail
    go_ret
    exact ⟨rfl, rfl⟩
  by_cases hab6 : a = 0 ∧ 0 < b
  · obtain ⟨ha, hb⟩ := hab6
    clear hab1 hab2 hab3 hab4 hab5
    rw [times_neg a b (by omega)]
    subst ha
    go_enter Try.func20, Try.ntmps20
    go_wp2_with fail
    go_ret
    exact ⟨rfl, rfl⟩
  by_cases hab7 : 0 < a ∧ b < 0
  · obtain ⟨ha, hb⟩ := hab7
    clear hab1 hab2 hab3 hab4 hab5 hab6
    rw [times_neg a b (by omega)]
    obtain ⟨q1, q2⟩ := quo_in a (by omega)
    have eq0 := Int.tdiv_eq_ediv_of_nonneg (a := 9223372036854775807) (b := a) (by decide)
    obtain ⟨q, hq⟩ : ∃ q, q = Int.tdiv 9223372036854775807 a := ⟨_, rfl⟩
    rw [← hq] at q1 q2 eq0
    have e1 : Int.tdiv 9223372036854775807 a = q := hq.symm
    have e0 : 9223372036854775807 / a = q := eq0.symm
    clear hq eq0
    have e2 : wrap64 q = q := IntWalk.wrap64_in _ (by omega)
    have t : decide (q < 0) = false := by simp; omega
    have nz : (a != 0) = true := by simp; omega
    go_enter Try.func20, Try.ntmps20
    go_wp2_with fail
    refine (most_any _).mono ?_
    rintro x w1 ⟨rfl, rfl⟩
    go_wp2_with fail
    go_ret
    exact ⟨rfl, rfl⟩
  by_cases hab8 : 0 < a ∧ b = 0
  · obtain ⟨ha, hb⟩ := hab8
    clear hab1 hab2 hab3 hab4 hab5 hab6 hab7
    rw [times_neg a b (by omega)]
    subst hb
    obtain ⟨q1, q2⟩ := quo_in a (by omega)
    have eq0 := Int.tdiv_eq_ediv_of_nonneg (a := 9223372036854775807) (b := a) (by decide)
    obtain ⟨q, hq⟩ : ∃ q, q = Int.tdiv 9223372036854775807 a := ⟨_, rfl⟩
    rw [← hq] at q1 q2 eq0
    have e1 : Int.tdiv 9223372036854775807 a = q := hq.symm
    have e0 : 9223372036854775807 / a = q := eq0.symm
    clear hq eq0
    have e2 : wrap64 q = q := IntWalk.wrap64_in _ (by omega)
    have t : decide (q < 0) = false := by simp; omega
    have nz : (a != 0) = true := by simp; omega
    go_enter Try.func20, Try.ntmps20
    go_wp2_with fail
    refine (most_any _).mono ?_
    rintro x w1 ⟨rfl, rfl⟩
    go_wp2_with fail
    go_ret
    exact ⟨rfl, rfl⟩
  have ha : 0 < a := by omega
  have hb : 0 < b := by omega
  clear hab1 hab2 hab3 hab4 hab5 hab6 hab7 hab8
  obtain ⟨q1, q2⟩ := quo_in a (by omega)
  have eq0 := Int.tdiv_eq_ediv_of_nonneg (a := 9223372036854775807) (b := a) (by decide)
  have eq := quo_lt b a (by omega)
  rw [Int.mul_comm b a] at eq
  obtain ⟨q, hq⟩ : ∃ q, q = Int.tdiv 9223372036854775807 a := ⟨_, rfl⟩
  rw [← hq] at q1 q2 eq0 eq
  have e1 : Int.tdiv 9223372036854775807 a = q := hq.symm
  have e0 : 9223372036854775807 / a = q := eq0.symm
  clear hq eq0
  have e2 : wrap64 q = q := IntWalk.wrap64_in _ (by omega)
  rw [times_pos a b (by omega) (by omega)]
  have nz : (a != 0) = true := by simp; omega
  by_cases h : q < b
  · have := eq.1 h
    rw [show min (a * b) 9223372036854775807 = 9223372036854775807 from by omega]
    have t : decide (q < b) = true := by simpa using h
    clear this eq h
    go_enter Try.func20, Try.ntmps20
    go_wp2_with fail
    refine (most_any _).mono ?_
    rintro x w1 ⟨rfl, rfl⟩
    go_wp2_with fail
    refine (most_any _).mono ?_
    rintro x w1 ⟨rfl, rfl⟩
    go_wp2_with fail
    go_ret
    exact ⟨rfl, rfl⟩
  · have : ¬ (9223372036854775807 < a * b) := fun hh => h (eq.2 hh)
    have p0 : 0 < a * b := Int.mul_pos (by omega) (by omega)
    rw [show min (a * b) 9223372036854775807 = a * b from by omega]
    have e3 : wrap64 (a * b) = a * b := IntWalk.wrap64_in _ (by omega)
    have t : decide (q < b) = false := by simpa using h
    clear this eq p0 h
    go_enter Try.func20, Try.ntmps20
    go_wp2_with fail
    refine (most_any _).mono ?_
    rintro x w1 ⟨rfl, rfl⟩
    go_wp2_with fail
    go_ret
    exact ⟨congrArg (fun z => Ending.returned (Value.int IntKind.i64 z)) e3, rfl⟩
end Go.Proofs.Ytjolkcomlindhaa
/- acct: mayBe, Of, own; the document's Of. -/
namespace Go.Proofs.Ytjolkcomlindhaa
open Go.RowKit

/-- A use. -/
abbrev useV (j c f t : Int) : Value := .agg #[.int .i64 j, .int .i64 c, .int .i64 f, .int .i64 t]
def mayB (j c f t : Int) : Bool := decide (0 ≤ j) && decide (j ≤ 1099511627776) && decide (0 ≤ c) && decide (0 ≤ f) && decide (f ≤ t)
theorem may_iff {j c f t : Int} : mayB j c f t = true ↔ 0 ≤ j ∧ j ≤ 1099511627776 ∧ 0 ≤ c ∧ 0 ≤ f ∧ f ≤ t := by simp [mayB, and_assoc]
def ofN (j c f t : Int) : Int := if mayB j c f t then timesE c (t - f) else 0
def ofE (j c f t : Int) : Int := if mayB j c f t then 0 else 1
theorem own_any (j c f t : Int) (w : World) : Calls Try.prog 15 #[useV j c f t] w fun x w' => x = .returned (useV j c f t) ∧ Below w.heap.size w w' := by
  have kr := Bk.new (w.alloc (.cells #[.int .i64 j, .int .i64 c, .int .i64 f, .int .i64 t] 23)) 27 #[.int .i64 j, .int .i64 c, .int .i64 f, .int .i64 t]
  rw [size_alloc] at kr
  go_enter Try.func15, Try.ntmps15
  go_wp2_with fail
  have d0 := kr.cell 0 _ rfl
  have d1 := kr.cell 1 _ rfl
  have d2 := kr.cell 2 _ rfl
  have d3 := kr.cell 3 _ rfl
  exact bodyPost_ret (v := useV j c f t) (by simp [results, Try.results15, go_sem, d0, d1, d2, d3]) rfl ⟨rfl, (below_alloc _ _).alloc (by simp) _⟩
set_option maxRecDepth 100000 in
set_option maxHeartbeats 400000 in
theorem may_any (j c f t : Int) (w : World) : Calls Try.prog 46 #[useV j c f t] w fun x w' => x = .returned (.bool (mayB j c f t)) ∧ Below w.heap.size w w' := by
  have hb0 := below_alloc w (.cells #[.int .i64 j, .int .i64 c, .int .i64 f, .int .i64 t] 27)
  unfold mayB
  cases h1 : decide (0 ≤ j) <;> cases h2 : decide (j ≤ 1099511627776) <;> cases h3 : decide (0 ≤ c) <;> cases h4 : decide (0 ≤ f) <;> cases h5 : decide (f ≤ t)
  all_goals
    go_enter Try.func46, Try.ntmps46
    go_wp2_with fail
    go_ret
    exact ⟨rfl, by first | exact hb0 | exact Below.refl _ _⟩
theorem timesE_wf (a b : Int) : 0 ≤ timesE a b ∧ timesE a b ≤ 9223372036854775807 := by
  have : 0 ≤ max a 0 * max b 0 := Int.mul_nonneg (by omega) (by omega)
  unfold timesE
  omega
theorem addE_wf (a b : Int) : 0 ≤ addE a b ∧ addE a b ≤ 9223372036854775807 := by
  unfold addE
  omega
theorem ofN_wf (j c f t : Int) : 0 ≤ ofN j c f t ∧ ofN j c f t ≤ 9223372036854775807 := by
  unfold ofN
  split
  · exact timesE_wf _ _
  · omega
theorem wf_of {n : Int} (h : 0 ≤ n ∧ n ≤ 9223372036854775807) : wf n := wf_iff.2 (by omega)
set_option maxRecDepth 100000 in
set_option maxHeartbeats 400000 in
theorem of_any (j c f t : Int) (hc : wf c) (hf : wf f) (ht : wf t) (w : World) : Calls Try.prog 14 #[useV j c f t] w fun x w' => x = .returned (.tuple #[.int .i64 (ofN j c f t), .int .i64 (ofE j c f t)]) ∧ Below w.heap.size w w' := by
  have hb0 := below_alloc w (.cells #[.int .i64 j, .int .i64 c, .int .i64 f, .int .i64 t] 27)
  have kr := Bk.new w 27 #[.int .i64 j, .int .i64 c, .int .i64 f, .int .i64 t]
  have HC := Lib.hid hc
  obtain ⟨f1, f2⟩ := wf_iff.1 hf
  obtain ⟨t1, t2⟩ := wf_iff.1 ht
  clear hc hf ht
  go_enter Try.func14, Try.ntmps14
  go_wp2_with fail
  refine (may_any j c f t _).mono ?_
  rintro x w1 ⟨rfl, hb⟩
  replace kr := kr.next hb
  replace hb0 := bmore hb0 hb
  clear hb
  have d0 := kr.cell 0 _ rfl
  have d1 := kr.cell 1 _ rfl
  have d2 := kr.cell 2 _ rfl
  have d3 := kr.cell 3 _ rfl
  cases q : mayB j c f t
  · have e0 := Lib.hid (show ofN j c f t = 0 ∧ ofE j c f t = 1 from by simp [ofN, ofE, q])
    clear q
    go_wp2_with fail
    go_ret2
    exact ⟨by rw [e0.out.1, e0.out.2]; rfl, hb0⟩
  · have e0 := Lib.hid (show ofN j c f t = timesE c (t - f) ∧ ofE j c f t = 0 from by simp [ofN, ofE, q])
    obtain ⟨h1, h2, h3, h4, h5⟩ := may_iff.1 q
    have e1 : wrap64 (t - f) = t - f := IntWalk.wrap64_in _ (by omega)
    have HT := Lib.hid (wf_of (n := t - f) (by omega))
    have HV := Lib.hid (timesE_wf c (t - f))
    have K := Lib.hid (times_any c (t - f) HC.out HT.out)
    clear q h1 h2 h3 h4 h5 f1 f2 t1 t2
    go_wp2_with fail
    refine (K.out _).mono ?_
    rintro x w2 ⟨rfl, rfl⟩
    go_wp2_with fail
    go_ret2
    exact ⟨by rw [e0.out.1, e0.out.2]; rfl, hb0⟩
set_option maxRecDepth 100000 in
set_option maxHeartbeats 400000 in
theorem rof_any (j c f t : Int) (hc : wf c) (hf : wf f) (ht : wf t) (w : World) : Calls Try.prog 16 #[useV j c f t] w fun x w' => x = .returned (.tuple #[.int .i64 (ofN j c f t), .int .i64 (ofE j c f t)]) ∧ Below w.heap.size w w' := by
  have hb0 := below_alloc w (.cells #[.int .i64 j, .int .i64 c, .int .i64 f, .int .i64 t] 23)
  have kr := Bk.new w 23 #[.int .i64 j, .int .i64 c, .int .i64 f, .int .i64 t]
  have HC := Lib.hid hc
  obtain ⟨f1, f2⟩ := wf_iff.1 hf
  obtain ⟨t1, t2⟩ := wf_iff.1 ht
  clear hc hf ht
  have d0 := kr.cell 0 _ rfl
  have d1 := kr.cell 1 _ rfl
  have d2 := kr.cell 2 _ rfl
  have d3 := kr.cell 3 _ rfl
  by_cases q : mayB j c f t = true
  · rw [show ofN j c f t = timesE c (t - f) from by simp [ofN, q], show ofE j c f t = 0 from by simp [ofE, q]]
    obtain ⟨h1, h2, h3, h4, h5⟩ := may_iff.1 q
    have e1 : wrap64 (t - f) = t - f := IntWalk.wrap64_in _ (by omega)
    have HT := Lib.hid (wf_of (n := t - f) (by omega))
    have K := Lib.hid (rtimes_any c (t - f) HC.out HT.out)
    clear q f1 f2 t1 t2
    go_enter Try.func16, Try.ntmps16
    go_wp2_with fail
    refine (K.out _).mono ?_
    rintro x w2 ⟨rfl, rfl⟩
    go_wp2_with fail
    go_ret2
    exact ⟨rfl, hb0⟩
  · have qf : mayB j c f t = false := by simpa using q
    rw [show ofN j c f t = 0 from by simp [ofN, qf], show ofE j c f t = 1 from by simp [ofE, qf]]
    have q' : ¬(0 ≤ j ∧ j ≤ 1099511627776 ∧ 0 ≤ c ∧ 0 ≤ f ∧ f ≤ t) := fun h => q (may_iff.2 h)
    clear q qf
    by_cases h1 : 0 ≤ j
    · by_cases h2 : j ≤ 1099511627776
      · by_cases h3 : 0 ≤ c
        · by_cases h4 : 0 ≤ f
          · have h5 : ¬ (f ≤ t) := fun h => q' ⟨h1, h2, h3, h4, h⟩
            clear q'
            go_enter Try.func16, Try.ntmps16
            go_wp2_with fail
            go_ret2
            exact ⟨rfl, hb0⟩
          · clear q'
            go_enter Try.func16, Try.ntmps16
            go_wp2_with fail
            go_ret2
            exact ⟨rfl, hb0⟩
        · clear q'
          go_enter Try.func16, Try.ntmps16
          go_wp2_with fail
          go_ret2
          exact ⟨rfl, hb0⟩
      · clear q'
        go_enter Try.func16, Try.ntmps16
        go_wp2_with fail
        go_ret2
        exact ⟨rfl, hb0⟩
    · clear q'
      go_enter Try.func16, Try.ntmps16
      go_wp2_with fail
      go_ret2
      exact ⟨rfl, hb0⟩
end Go.Proofs.Ytjolkcomlindhaa
