/- A book of one's own; live. -/
import Derived.Test.YtjolkcomlindhaaGB3xB4xB5
import Derived.WalkKit
import Derived.Laws.Rows
import Derived.Deep.Draws
import Derived.StillTailTactics
import Derived.OwnWalk
import Derived.Laws.CopyOwn
import Derived.Deep.QuietTactic
import Derived.BigQuiet
namespace Go.Proofs.Ytjolkcomlindhaa
open Go.RowKit Go.Shelf Go.Maps Go.Sort

/-- A book that was made behind world w, which lies as it did. -/
structure Lv (w V : World) (p : Nat) (m : Option Nat) (k : Nat) (L : List (Int × Int)) : Prop where
  book : BookAt V p m k L
  low : Below w.heap.size w V
  hp : w.heap.size ≤ p
  hm : ∀ b, m = some b → w.heap.size ≤ b
section
variable {w V V' : World} {p k : Nat} {m m' : Option Nat} {L L' : List (Int × Int)}
theorem Lv.next (h : Lv w V p m k L) (hb : Below V.heap.size V V') : Lv w V' p m k L := ⟨h.book.next hb, bmore h.low hb, h.hp, h.hm⟩
theorem Lv.turn (h : Lv w V p m k L) (hB : BookAt V' p m' (k + 1) L') (ht : Tn V V' p m) (hf : Fresh V m m') : Lv w V' p m' (k + 1) L' := by
  refine ⟨hB, h.low.trans (ht.below h.low.size h.hp h.hm), h.hp, fun b e => ?_⟩
  rcases hf with rfl | ⟨_, b', rfl, hb⟩
  · exact h.hm b e
  · cases e
    have := h.low.size
    omega
end
def u1 : Us := ⟨5, 4, 3, 10, rfl, rfl, rfl, rfl⟩
def u2 : Us := ⟨2, 1, 1, 1, rfl, rfl, rfl, rfl⟩
def u3 : Us := ⟨5, 1, 2, 1, rfl, rfl, rfl, rfl⟩
def u4 : Us := ⟨5, 9223372036854775807, 0, 2, rfl, rfl, rfl, rfl⟩
theorem n1 : noted [] u1 = [(5, 28)] ∧ u1.e = 0 := by decide +kernel
theorem n2 : noted [(5, 28)] u2 = [(2, 0), (5, 28)] ∧ u2.e = 0 := by decide +kernel
theorem n3 : noted [(2, 0), (5, 28)] u3 = [(2, 0), (5, 28)] ∧ u3.e = 1 := by decide +kernel
theorem n4 : noted [(2, 0), (5, 28)] u4 = [(2, 0), (5, 9223372036854775807)] ∧ u4.e = 0 := by decide +kernel
theorem s3 : allS [(2, 0), (5, 28)] = 28 := by decide +kernel
theorem s4 : allS [(2, 0), (5, 9223372036854775807)] = 9223372036854775807 ∧ jobS [(2, 0), (5, 9223372036854775807)] 5 = 9223372036854775807 := by decide +kernel
section
variable {w V : World} {p k : Nat} {m : Option Nat} {L L' : List (Int × Int)}
theorem lnote (h : Lv w V p m k L) (hk : k < 1000) (u : Us) (e : Int) (hn : noted L u = L' ∧ u.e = e) : Calls Try.prog 23 #[.pointer (some ⟨p, 0, none⟩), u.v] V fun x V' => ∃ m', x = .returned (.int .i64 e) ∧ Lv w V' p m' (k + 1) L' := by
  have := note_any h.book u hk
  rw [hn.1, hn.2] at this
  refine this.mono ?_
  rintro x V' ⟨m', rfl, h1, h2, h3⟩
  exact ⟨m', rfl, h.turn h1 h2 h3⟩
end
theorem a1 (w : World) : Calls Try.prog 17 #[.int .i64 9223372036854775807, .int .i64 1] w fun x w' => x = .returned (.int .i64 9223372036854775807) ∧ w = w' := add_any _ _ rfl rfl w
theorem a2 (w : World) : Calls Try.prog 17 #[.int .i64 (-5), .int .i64 3] w fun x w' => x = .returned (.int .i64 3) ∧ w = w' := add_any _ _ rfl rfl w
theorem t1 (w : World) : Calls Try.prog 19 #[.int .i64 4611686018427387904, .int .i64 2] w fun x w' => x = .returned (.int .i64 9223372036854775807) ∧ w = w' := times_any _ _ rfl rfl w
theorem t2 (w : World) : Calls Try.prog 19 #[.int .i64 0, .int .i64 9223372036854775807] w fun x w' => x = .returned (.int .i64 0) ∧ w = w' := times_any _ _ rfl rfl w
theorem t3 (w : World) : Calls Try.prog 19 #[.int .i64 3, .int .i64 (-1)] w fun x w' => x = .returned (.int .i64 0) ∧ w = w' := times_any _ _ rfl rfl w
set_option maxRecDepth 100000 in
set_option maxHeartbeats 2000000 in
theorem live_any (w : World) : Calls Try.prog 21 #[] w fun e w' => e = .returned (.bool true) ∧ Below w.heap.size w w' := by
  go_enter Try.func21, Try.ntmps21
  go_wp2_with fail
  refine (new_any w).mono ?_
  rintro x w1 ⟨p, rfl, hp, hB, hb⟩
  have st : Lv w w1 p none 0 [] := ⟨hB, hb, hp, fun b e => by cases e⟩
  clear hB hb hp
  go_wp2_with fail
  refine (lnote st (by omega) u1 0 n1).mono ?_
  rintro x w2 ⟨m2, rfl, st⟩
  go_wp2_with fail
  refine (lnote st (by omega) u2 0 n2).mono ?_
  rintro x w3 ⟨m3, rfl, st⟩
  go_wp2_with fail
  refine (lnote st (by omega) u3 1 n3).mono ?_
  rintro x w4 ⟨m4, rfl, st⟩
  go_wp2_with fail
  have K := all_any st.book (by decide)
  rw [s3] at K
  refine K.mono ?_
  rintro x w5 ⟨rfl, hb⟩
  replace st := st.next hb
  clear hb K
  go_wp2_with fail
  refine (lnote st (by omega) u4 0 n4).mono ?_
  rintro x w6 ⟨m6, rfl, st⟩
  go_wp2_with fail
  refine (a1 _).mono ?_
  rintro x w7 ⟨rfl, rfl⟩
  go_wp2_with fail
  refine (a2 _).mono ?_
  rintro x w7 ⟨rfl, rfl⟩
  go_wp2_with fail
  refine (t1 _).mono ?_
  rintro x w7 ⟨rfl, rfl⟩
  go_wp2_with fail
  refine (t2 _).mono ?_
  rintro x w7 ⟨rfl, rfl⟩
  go_wp2_with fail
  refine (t3 _).mono ?_
  rintro x w7 ⟨rfl, rfl⟩
  go_wp2_with fail
  have K := job_any st.book (n := 5) rfl
  rw [s4.2] at K
  refine K.mono ?_
  rintro x w7 ⟨rfl, rfl⟩
  clear K
  go_wp2_with fail
  have K := all_any st.book (by decide)
  rw [s4.1] at K
  refine K.mono ?_
  rintro x w8 ⟨rfl, hb⟩
  replace st := st.next hb
  clear hb K
  go_wp2_with fail
  refine (jobs_any st.book (by decide)).mono ?_
  rintro x w9 ⟨v, rfl, hrow, hb⟩
  replace st := st.next hb
  obtain ⟨A, cap, rfl⟩ := own_form hrow
  have hz := ints_iv rfl hrow
  clear hb hrow
  have kb := Bk.new w9 3 #[.int .i64 2, .int .i64 5]
  have hz1 := hz.next (below_alloc w9 (.cells #[.int .i64 2, .int .i64 5] 3))
  have hz2 : IntsAt (w9.alloc (.cells #[.int .i64 2, .int .i64 5] 3)) (some ⟨w9.heap.size, 0, none⟩) [2, 5] := by
    refine .inr ⟨_, rfl, kb.lt, ?_⟩
    intro j hj
    match j, hj with
    | 0, _ => exact kb.cell 0 _ rfl
    | 1, _ => exact kb.cell 1 _ rfl
  have HS := Lib.hid (same_eq A (some ⟨w9.heap.size, 0, none⟩) cap 2 2 [2, 5] _ hz1 hz2 rfl (by unfold maxLen; omega))
  clear hz1 hz2 hz
  go_wp2_with fail
  refine HS.out.mono ?_
  rintro x w10 ⟨rfl, hb⟩
  go_wp2_with fail
  go_ret
  exact ⟨rfl, bmore (bmore st.low (below_alloc _ _)) hb⟩
end Go.Proofs.Ytjolkcomlindhaa
/- Sets of cores as lists of four numbers: plain facts. -/
namespace Go.Proofs.Ytjolkcomlindhaa.Mo
namespace Mk

def nth (l : List Nat) (i : Nat) : Nat := l.getD i 0
/-- Four words. -/
def W4 (l : List Nat) : Prop := l.length = 4 ∧ ∀ i, nth l i < 2 ^ 64
def hasB (l : List Nat) (c : Nat) : Bool := (nth l (c / 64)).testBit (c % 64)
def wth (l : List Nat) (c : Nat) : List Nat := l.set (c / 64) (nth l (c / 64) ||| 2 ^ (c % 64))
def zero : List Nat := [0, 0, 0, 0]
def ofL (xs : List Nat) : List Nat := xs.foldl wth zero

theorem nth_getElem? (l : List Nat) (i : Nat) : nth l i = (l[i]?).getD 0 := by simp [nth]
theorem nth_set (l : List Nat) (i j x : Nat) (h : i < l.length) : nth (l.set i x) j = if i = j then x else nth l j := by
  rw [nth_getElem?, nth_getElem?, List.getElem?_set]
  by_cases e : i = j
  · subst e; simp [h]
  · simp [e]
theorem W4.zero : W4 zero := by
  refine ⟨rfl, fun i => ?_⟩
  match i with
  | 0 | 1 | 2 | 3 => decide
  | n + 4 => simp [nth, Mk.zero]
theorem W4.set {l : List Nat} (h : W4 l) {i x : Nat} (hi : i < 4) (hx : x < 2 ^ 64) : W4 (l.set i x) := by
  refine ⟨by simp [h.1], fun j => ?_⟩
  rw [nth_set _ _ _ _ (by rw [h.1]; exact hi)]
  split
  · exact hx
  · exact h.2 j
theorem W4.wth {l : List Nat} (h : W4 l) {c : Nat} (hc : c < 256) : W4 (wth l c) :=
  h.set (by omega) (Nat.or_lt_two_pow (h.2 _) (Nat.pow_lt_pow_right (by decide) (by omega)))
theorem has_zero (d : Nat) : hasB zero d = false := by
  unfold hasB
  have : nth zero (d / 64) = 0 := by
    generalize d / 64 = i
    match i with
    | 0 | 1 | 2 | 3 => rfl
    | n + 4 => simp [nth, zero]
  rw [this]; simp
theorem has_wth {l : List Nat} (h : l.length = 4) {c : Nat} (hc : c < 256) (d : Nat) : hasB (wth l c) d = (hasB l d || decide (d = c)) := by
  unfold hasB wth
  rw [nth_set _ _ _ _ (by rw [h]; omega)]
  by_cases e : c / 64 = d / 64
  · rw [if_pos e, Nat.testBit_or, Nat.testBit_two_pow, e]
    congr 1
    by_cases e2 : d = c
    · subst e2; simp
    · simp [e2]; omega
  · rw [if_neg e]
    have : d ≠ c := by rintro rfl; exact e rfl
    simp [this]
theorem foldl_W4 : ∀ (xs : List Nat) (l : List Nat), W4 l → (∀ x ∈ xs, x < 256) → W4 (xs.foldl wth l)
  | [], _, h, _ => h
  | x :: xs, l, h, hx => foldl_W4 xs _ (h.wth (hx x (by simp))) (fun y hy => hx y (by simp [hy]))
theorem has_foldl : ∀ (xs : List Nat) (l : List Nat), W4 l → (∀ x ∈ xs, x < 256) → ∀ d, hasB (xs.foldl wth l) d = (hasB l d || decide (d ∈ xs))
  | [], _, _, _, _ => by simp
  | x :: xs, l, h, hx, d => by
    rw [List.foldl_cons, has_foldl xs _ (h.wth (hx x (by simp))) (fun y hy => hx y (by simp [hy])), has_wth h.1 (hx x (by simp)), Bool.or_assoc]
    congr 1
    simp [Bool.decide_or]
theorem ofL_W4 {xs : List Nat} (hx : ∀ x ∈ xs, x < 256) : W4 (ofL xs) := foldl_W4 xs _ W4.zero hx
theorem has_ofL {xs : List Nat} (hx : ∀ x ∈ xs, x < 256) (d : Nat) : hasB (ofL xs) d = decide (d ∈ xs) := by
  unfold ofL; rw [has_foldl xs _ W4.zero hx, has_zero, Bool.false_or]
theorem ofL_snoc (xs : List Nat) (c : Nat) : ofL (xs ++ [c]) = wth (ofL xs) c := by simp [ofL]
theorem ext {a b : List Nat} (ha : W4 a) (hb : W4 b) (h : ∀ d, d < 256 → hasB a d = hasB b d) : a = b := by
  apply List.ext_getElem (by rw [ha.1, hb.1])
  intro i h1 h2
  have hi : i < 4 := by rw [ha.1] at h1; exact h1
  have ea : nth a i = a[i] := by simp [nth, h1]
  have eb : nth b i = b[i] := by simp [nth, h2]
  rw [← ea, ← eb]
  apply Nat.eq_of_testBit_eq
  intro j
  by_cases hj : j < 64
  · have := h (64 * i + j) (by omega)
    unfold hasB at this
    rw [show (64 * i + j) / 64 = i by omega, show (64 * i + j) % 64 = j by omega] at this
    exact this
  · rw [Nat.testBit_lt_two_pow (Nat.lt_of_lt_of_le (ha.2 i) (Nat.pow_le_pow_right (by decide) (by omega))), Nat.testBit_lt_two_pow (Nat.lt_of_lt_of_le (hb.2 i) (Nat.pow_le_pow_right (by decide) (by omega)))]
theorem has_out {l : List Nat} (h : l.length = 4) (d : Nat) (hd : 256 ≤ d) : hasB l d = false := by
  unfold hasB
  have : nth l (d / 64) = 0 := by
    rw [nth_getElem?, List.getElem?_eq_none (by omega)]; rfl
  rw [this]; simp
theorem nth_replicate (n i : Nat) : nth (List.replicate n 0) i = 0 := by
  rw [nth_getElem?, List.getElem?_replicate]; split <;> rfl
theorem len4 {l : List Nat} (h : l.length = 4) : l = [nth l 0, nth l 1, nth l 2, nth l 3] := by
  match l, h with
  | [_, _, _, _], _ => rfl

end Mk
end Go.Proofs.Ytjolkcomlindhaa.Mo
/- A block of words in memory, as a list of numbers. -/
namespace Go.Proofs.Ytjolkcomlindhaa.Mo
open Go.RowKit

/-- Numbers as values of a kind. -/
def vs (k : IntKind) (l : List Nat) : Array Value := (l.map fun n : Nat => Value.int k n).toArray
/-- Block g holds these numbers, as values of kind k; its type is t; nothing of it is frozen. -/
def Row (k : IntKind) (t : TypeId) (w : World) (g : Nat) (l : List Nat) : Prop := w.heap[g]? = some (.cells (vs k l) t (0, 0))

variable {k : IntKind} {t : TypeId} {w w' : World} {g g' : Nat} {l : List Nat}

theorem vs_size (k : IntKind) (l : List Nat) : (vs k l).size = l.length := by simp [vs]
theorem vs_get (k : IntKind) (l : List Nat) (i : Nat) (h : i < l.length) : (vs k l)[i]? = some (.int k (Mk.nth l i)) := by
  simp [vs, Mk.nth_getElem?, h]

theorem Row.cell (h : Row k t w g l) (i : Nat) (hi : i < l.length) : w.cell? ⟨g, i, none⟩ = some (.int k (Mk.nth l i)) := by
  rw [cell_of_row w g i _ t _ h, vs_get k l i hi]
theorem Row.frozen (h : Row k t w g l) (i : Nat) : w.frozen? ⟨g, i, none⟩ = false := frozen_of_row w g i _ t h
theorem Row.set (h : Row k t w g l) (i n : Nat) : Row k t (w.setCell ⟨g, i, none⟩ (.int k n)) g (l.set i n) := by
  have := heap_setCell_same w g i _ t (.int k n) h
  unfold Row
  rw [this]
  congr 2
  simp [vs, List.map_set]
theorem Row.setOther (h : Row k t w g l) {a : Addr} (v : Value) (hg : g ≠ a.block) : Row k t (w.setCell a v) g l :=
  (heap_setCell_other w a g v hg).trans h
theorem Row.below {B : Nat} (hb : Below B w w') (hg : g < B) (h : Row k t w g l) : Row k t w' g l := (hb.block g hg).trans h
theorem Row.drewN (h : Row k t w g l) (n : Nat) : Row k t (w.drewN n) g l := h
theorem Row.drew (h : Row k t w g l) : Row k t w.drew g l := h
theorem Row.alloc (h : Row k t w g l) (o : Obj) : Row k t (w.alloc o) g l := by
  have hlt : g < w.heap.size := by
    by_cases hlt : g < w.heap.size
    · exact hlt
    · have : w.heap[g]? = none := by simp; omega
      unfold Row at h; rw [this] at h; cases h
  exact (Below.heap_alloc w o g hlt).trans h
theorem Row.new (w : World) (k : IntKind) (t : TypeId) (l : List Nat) (cs : Array Value) (h : cs = vs k l) : Row k t (w.alloc (.cells cs t)) w.heap.size l := by
  subst h; exact heap_alloc_new w _
theorem Row.lt (h : Row k t w g l) : g < w.heap.size := by
  by_cases hlt : g < w.heap.size
  · exact hlt
  · have : w.heap[g]? = none := by simp; omega
    unfold Row at h; rw [this] at h; cases h

/-- Zeros behind a list: the first of them is set. -/
theorem set_zero (a : List Nat) (m n : Nat) (h : 0 < m) : (a ++ List.replicate m 0).set a.length n = (a ++ [n]) ++ List.replicate (m - 1) 0 := by
  obtain ⟨m, rfl⟩ : ∃ j, m = j + 1 := ⟨m - 1, by omega⟩
  simp [List.replicate_succ]

theorem size_drewN (w : World) (n : Nat) : (w.drewN n).heap.size = w.heap.size := rfl
theorem below_drewN {B : Nat} {a w : World} (h : Below B a w) (n : Nat) : Below B a (w.drewN n) := ⟨h.os, h.tape, h.output, h.size, h.block⟩

theorem vs_one (k : IntKind) (l : List Nat) : (vs k l).all (·.oneCell') = true := by
  rw [Array.all_eq_true_iff_forall_mem]
  intro v hv
  obtain ⟨n, _, rfl⟩ := List.mem_map.1 (by simpa [vs] using hv : v ∈ l.map fun n : Nat => Value.int k n)
  rfl
theorem Row.setRow (h : Row k t w g l) (l' : List Nat) : Row k t (w.setRow g (vs k l')) g l' := setRow_heap w g _ _ t _ h
theorem Row.setRowOther (h : Row k t w g l) (cs : Array Value) (hg : g ≠ g') : Row k t (w.setRow g' cs) g l :=
  (setRow_other w g' g cs hg).trans h

/-- A region that draws its order, reads and calls quietly, and ends in a forced tail: its world under a name. -/
theorem region_tail {P : Program} {id : Nat} {Q : Exit → Act → World → Prop} {a : Act} {w : World} {l : List Oper} (n : Nat) (hm : P.follows .mixedOrders = true) (hB : Region.lexTailB .any l.toArray n = true)
    (h : ∀ w2, Hid (w2 = w.drew) → wpStill P l.toArray w2 (fun a' => wpList P l.toArray Q (l.drop n) a' w2) (l.take n) a) : (Code.region id l.toArray true).wp P Q a w :=
  wp_region_still_tail n hm hB (h _ rfl)
theorem region_still {P : Program} {id : Nat} {Q : Exit → Act → World → Prop} {a : Act} {w : World} {l : List Oper} (hm : P.follows .mixedOrders = true) (hB : Region.lexB .any l.toArray = true)
    (h : ∀ w2, Hid (w2 = w.drew) → wpStill P l.toArray w2 (fun a' => Q .normal a' w2) l a) : (Code.region id l.toArray true).wp P Q a w :=
  wp_region_still_lit hm hB (h _ rfl)
theorem below_hid {B : Nat} {a w w2 : World} (h : Below B a w) (e : Hid (w2 = w.drew)) : Below B a w2 := by rw [e.out]; exact h.drew
theorem Row.hid {w2 : World} (h : Row k t w g l) (e : Hid (w2 = w.drew)) : Row k t w2 g l := by rw [e.out]; exact h.drew

/-- A whole array stored into a block of known numbers; the world behind it under a name. -/
theorem store_law {P : Program} {ops : Array Oper} {rest : List Oper} {o : Oper} {a : Act} {w : World} {Q : Exit → Act → World → Prop} (hgd : o.guard = none) (ty : TypeId) (x y : Operand) (ho : o.op = .store ty x y)
    (g : Nat) (k : IntKind) (l0 l : List Nat) (hx : a.eval x = .pointer (some ⟨g, 0, none⟩)) (hy : a.eval y = .agg (vs k l))
    (t : TypeId) (hg : Row k t w g l0) (hl : l0.length = l.length) (hi : (P.info? ty).map (·.size) = some l.length)
    (h : ∀ w', Hid (w' = w.setRow g (vs k l)) → wpList P ops Q rest (a.put o.dst undef) w') : wpList P ops Q (o :: rest) a w :=
  wpList_store_row hgd ty x y ho g (vs k l) hx hy t (vs k l0) hg (by rw [vs_size]; exact hi) (by rw [vs_size, vs_size, hl]) (vs_one _ _) (h _ rfl)
theorem load_law {P : Program} {ops : Array Oper} {rest : List Oper} {o : Oper} {a : Act} {w : World} {Q : Exit → Act → World → Prop} (hgd : o.guard = none) (ty : TypeId) (x : Operand) (ho : o.op = .load ty x)
    (g : Nat) (k : IntKind) (l : List Nat) (hx : a.eval x = .pointer (some ⟨g, 0, none⟩)) (t : TypeId) (d : TypeDesc) (hg : Row k t w g l)
    (hu : P.underlying ty = some d) (hd : (match d with | .struct _ | .array _ _ => true | _ => false) = true) (hi : (P.info? ty).map (·.size) = some l.length)
    (h : wpList P ops Q rest (a.put o.dst (.agg (vs k l))) w) : wpList P ops Q (o :: rest) a w :=
  wpList_load_row hgd ty x ho g hx t (vs k l) (0, 0) d hg hu hd (by rw [vs_size]; exact hi) h
theorem Row.hidSet {w2 : World} {l' : List Nat} (h : Row k t w g l) (e : Hid (w2 = w.setRow g (vs k l'))) : Row k t w2 g l' := by rw [e.out]; exact h.setRow l'
theorem Row.hidOther {w2 : World} {cs : Array Value} (h : Row k t w g l) (e : Hid (w2 = w.setRow g' cs)) (hg : g ≠ g') : Row k t w2 g l := by rw [e.out]; exact h.setRowOther cs hg
theorem below_hidSet {B : Nat} {a w w2 : World} {cs : Array Value} (h : Below B a w) (e : Hid (w2 = w.setRow g cs)) (hg : B ≤ g) : Below B a w2 := by rw [e.out]; exact below_setRow h hg cs
theorem size_hidSet {w2 : World} {cs : Array Value} (e : Hid (w2 = w.setRow g cs)) : w2.heap.size = w.heap.size := by rw [e.out]; simp
theorem results_row {P : Program} {fn : Func} {p : Tmp} {ty : TypeId} (h : fn.results = #[.cell p ty]) (tmps : Array Value) (w : World) (g : Nat) (k : IntKind) (t : TypeId) (l : List Nat) (d : TypeDesc)
    (hp : tmps.getD p undef = .pointer (some ⟨g, 0, none⟩)) (hg : Row k t w g l)
    (hu : P.underlying ty = some d) (hd : (match d with | .struct _ | .array _ _ => true | _ => false) = true) (hi : (P.info? ty).map (·.size) = some l.length) :
    (results fn tmps).run P w = .ok (.agg (vs k l)) w :=
  results_cell_row h tmps w g t (vs k l) (0, 0) d hp hg hu hd (by rw [vs_size]; exact hi)

/-- A whole array loaded, the operation guarded or not. -/
theorem load_w {P : Program} {ops : Array Oper} {rest : List Oper} {o : Oper} {a : Act} {w : World} {Q : Exit → Act → World → Prop} (hgd : Region.wanted o (yielded ops a.tmps) = true) (ty : TypeId) (x : Operand) (ho : o.op = .load ty x)
    (g : Nat) (k : IntKind) (l : List Nat) (hx : a.eval x = .pointer (some ⟨g, 0, none⟩)) (t : TypeId) (d : TypeDesc) (hg : Row k t w g l)
    (hu : P.underlying ty = some d) (hd : (match d with | .struct _ | .array _ _ => true | _ => false) = true) (hi : (P.info? ty).map (·.size) = some l.length)
    (h : wpList P ops Q rest (a.put o.dst (.agg (vs k l))) w) : wpList P ops Q (o :: rest) a w :=
  BigFrame.wpList_want hgd fun _ hK => wp_load_row ty x ho g hx t (vs k l) (0, 0) d hg hu hd (by rw [vs_size]; exact hi) (hK _ _ h)
theorem results_row_tmp {P : Program} {fn : Func} {p q : Tmp} {ty : TypeId} (h : fn.results = #[.cell p ty, .tmp q]) (tmps : Array Value) (w : World) (g : Nat) (k : IntKind) (t : TypeId) (l : List Nat) (d : TypeDesc)
    (hp : tmps.getD p undef = .pointer (some ⟨g, 0, none⟩)) (hg : Row k t w g l)
    (hu : P.underlying ty = some d) (hd : (match d with | .struct _ | .array _ _ => true | _ => false) = true) (hi : (P.info? ty).map (·.size) = some l.length) :
    (results fn tmps).run P w = .ok (.tuple #[.agg (vs k l), tmps.getD q undef]) w := by
  have hp' : tmps[p]?.getD undef = .pointer (some ⟨g, 0, none⟩) := by simpa using hp
  simp [results, h, hp', asAddr, run_loadVar_row w g t ty (vs k l) (0, 0) d hg hu hd (by rw [vs_size]; exact hi)]
theorem made_zeros (k : IntKind) (n : Nat) : madeCells #[Value.int k 0] n = vs k (List.replicate n 0) := by
  apply Array.ext_getElem?
  intro i
  by_cases h : i < n
  · rw [vs_get k _ i (by simpa using h), Mk.nth_replicate]
    simp [madeCells, h, Nat.mod_one]
  · rw [Array.getElem?_eq_none (by simp [madeCells]; omega), Array.getElem?_eq_none (by simp [vs]; omega)]
/-- make([]byte, n): a block of zeros. -/
theorem make_law {P : Program} {w : World} {ops : Array Oper} {rest : List Oper} {o : Oper} {a : Act} {Q : Exit → Act → World → Prop}
    (hg : o.guard = none) (x y : Operand) (t : TypeId) (hop : o.op = Op.makeSlice t x y) (e : TypeId) (k : IntKind) (h1 : P.underlying t = some (.slice e))
    (h2 : (P.info? e).map (fun i => (i.zero, i.size, i.bytes)) = some (some (.int k 0), 1, 1)) (kl kc : IntKind) (L C : Int) (n : Nat) (hl : a.eval x = .int kl L) (hc : a.eval y = .int kc C)
    (hL : L = (n : Int)) (hC : C = (n : Int)) (hn : n ≤ 281474976710656)
    (h : ∀ w', Hid (w' = w.alloc (.cells (vs k (List.replicate n 0)) e)) → wpList P ops Q rest (a.put o.dst (.slice (some ⟨w.heap.size, 0, none⟩) n n)) w') : wpList P ops Q (o :: rest) a w := by
  refine wpList_plain hg fun K hK' => ?_
  obtain ⟨i, hi, hz0, hz1, hz2⟩ := info_parts h2
  subst hL
  subst hC
  have hrun := run_make (P := P) w t e i _ h1 hi hz0 kl kc (n : Int) (n : Int) (by omega) (by omega) (by rw [hz2]; omega) (by omega)
  simp only [Int.toNat_natCast, hz1, Nat.mul_one, Value.cells, made_zeros] at hrun
  unfold Oper.wp
  simp [execOp, hop, hl, hc, hrun, Result.andThen]
  exact hK' _ _ (h _ rfl)
theorem Row.hidNew {w2 : World} (e : Hid (w2 = w.alloc (.cells (vs k l) t))) : Row k t w2 w.heap.size l := by rw [e.out]; exact Row.new w k t l _ rfl
theorem Row.hidAlloc {w2 : World} {o : Obj} (h : Row k t w g l) (e : Hid (w2 = w.alloc o)) : Row k t w2 g l := by rw [e.out]; exact h.alloc o
theorem below_hidAlloc {B : Nat} {a w w2 : World} {o : Obj} (h : Below B a w) (e : Hid (w2 = w.alloc o)) (hB : B ≤ w.heap.size) : Below B a w2 := by rw [e.out]; exact h.alloc hB o
/-- A class of worlds: whatever lies below B is as in w. -/
structure In (B : Nat) (w : World) where
  val : World
  ok : Below B w val
/-- A region that draws its order, whose own operations only read, and whose callees leave what lies below B: one walk. -/
theorem region_in {P : Program} {id : Nat} {Q : Exit → Act → World → Prop} {a : Act} {w : World} {l : List Oper} (B : Nat) (hm : P.follows .mixedOrders = true) (hB : Region.lexB .any l.toArray = true)
    (h : wpQuiet P l.toArray (fun w' => ∃ n : In B w, w' = n.val) (fun a' => ∀ w', Below B w w' → Q .normal a' w') l a) : (Code.region id l.toArray true).wp P Q a w := by
  refine wp_region_quiet (C := fun w' => ∃ n : In B w, w' = n.val) hm hB ⟨⟨_, (Below.refl B w).drew⟩, rfl⟩ ?_
  have e : (fun a' : Act => ∀ w', (∃ n : In B w, w' = n.val) → Q .normal a' w') = fun a' : Act => ∀ w', Below B w w' → Q .normal a' w' := by
    funext a'
    apply propext
    constructor
    · intro h w' hb; exact h w' ⟨⟨w', hb⟩, rfl⟩
    · rintro h w' ⟨n, rfl⟩; exact h _ n.ok
  rw [e]
  simpa using h
theorem In.cell {B : Nat} {w : World} {p : Addr} {v : Value} (hp : p.block < B) (h : w.cell? p = some v) (n : In B w) : n.val.cell? p = some v := (n.ok.cell hp).trans h
/-- A callee's contract in a world of the class. -/
theorem Calls.in_of {P : Program} {f : FuncId} {args : Array Value} {B : Nat} {w : World} {n : In B w} {v : Value} (hB : B ≤ w.heap.size)
    (h : Calls P f args n.val fun e w' => e = .returned v ∧ Below n.val.heap.size n.val w') : Calls P f args n.val fun e w'' => e = .returned v ∧ ∃ m : In B w, w'' = m.val :=
  h.mono fun _ w' ⟨he, hm⟩ => ⟨he, ⟨w', n.ok.trans (hm.mono (Nat.le_trans hB n.ok.size))⟩, rfl⟩

end Go.Proofs.Ytjolkcomlindhaa.Mo
