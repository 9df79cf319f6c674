/- A block of words in memory, as a list of numbers. -/
import Derived.Test.YthmlibapjhmdbaaPure
import Derived.WalkKit
import Derived.Laws.Rows
import Derived.Deep.Draws
import Derived.StillTailTactics
import Derived.OwnWalk
import Derived.Laws.CopyOwn
import Derived.Deep.QuietTactic
import Derived.BigQuiet
import Derived.Test.YthmlibapjhmdbaaRows
import Derived.WalkSpells
import Derived.WalkLawsBesides
import Derived.IntWalk
import Derived.Lib.Hide
import Derived.Laws.BitsAllLaws
import Derived.Deep.RegionHeld3
import Derived.Deep.DeepCutAuto
namespace Go.Proofs.Ythmlibapjhmdbaa
open Go.RowKit

/-- Numbers as values of a kind. -/
def vs (k : IntKind) (l : List Nat) : Array Value := (l.map fun n : Nat => Value.int k n).toArray
/-- Block g holds these numbers, as values of kind k; its type is t; nothing of it is frozen. -/
def Row (k : IntKind) (t : TypeId) (w : World) (g : Nat) (l : List Nat) : Prop := w.heap[g]? = some (.cells (vs k l) t (0, 0))

variable {k : IntKind} {t : TypeId} {w w' : World} {g g' : Nat} {l : List Nat}

theorem vs_size (k : IntKind) (l : List Nat) : (vs k l).size = l.length := by simp [vs]
theorem vs_get (k : IntKind) (l : List Nat) (i : Nat) (h : i < l.length) : (vs k l)[i]? = some (.int k (Mk.nth l i)) := by
  simp [vs, Mk.nth_getElem?, h]

theorem Row.cell (h : Row k t w g l) (i : Nat) (hi : i < l.length) : w.cell? ⟨g, i, none⟩ = some (.int k (Mk.nth l i)) := by
  rw [cell_of_row w g i _ t _ h, vs_get k l i hi]
theorem Row.frozen (h : Row k t w g l) (i : Nat) : w.frozen? ⟨g, i, none⟩ = false := frozen_of_row w g i _ t h
theorem Row.set (h : Row k t w g l) (i n : Nat) : Row k t (w.setCell ⟨g, i, none⟩ (.int k n)) g (l.set i n) := by
  have := heap_setCell_same w g i _ t (.int k n) h
  unfold Row
  rw [this]
  congr 2
  simp [vs, List.map_set]
theorem Row.setOther (h : Row k t w g l) {a : Addr} (v : Value) (hg : g ≠ a.block) : Row k t (w.setCell a v) g l :=
  (heap_setCell_other w a g v hg).trans h
theorem Row.below {B : Nat} (hb : Below B w w') (hg : g < B) (h : Row k t w g l) : Row k t w' g l := (hb.block g hg).trans h
theorem Row.drewN (h : Row k t w g l) (n : Nat) : Row k t (w.drewN n) g l := h
theorem Row.drew (h : Row k t w g l) : Row k t w.drew g l := h
theorem Row.alloc (h : Row k t w g l) (o : Obj) : Row k t (w.alloc o) g l := by
  have hlt : g < w.heap.size := by
    by_cases hlt : g < w.heap.size
    · exact hlt
    · have : w.heap[g]? = none := by simp; omega
      unfold Row at h; rw [this] at h; cases h
  exact (Below.heap_alloc w o g hlt).trans h
theorem Row.new (w : World) (k : IntKind) (t : TypeId) (l : List Nat) (cs : Array Value) (h : cs = vs k l) : Row k t (w.alloc (.cells cs t)) w.heap.size l := by
  subst h; exact heap_alloc_new w _
theorem Row.lt (h : Row k t w g l) : g < w.heap.size := by
  by_cases hlt : g < w.heap.size
  · exact hlt
  · have : w.heap[g]? = none := by simp; omega
    unfold Row at h; rw [this] at h; cases h

/-- Zeros behind a list: the first of them is set. -/
theorem set_zero (a : List Nat) (m n : Nat) (h : 0 < m) : (a ++ List.replicate m 0).set a.length n = (a ++ [n]) ++ List.replicate (m - 1) 0 := by
  obtain ⟨m, rfl⟩ : ∃ j, m = j + 1 := ⟨m - 1, by omega⟩
  simp [List.replicate_succ]

theorem size_drewN (w : World) (n : Nat) : (w.drewN n).heap.size = w.heap.size := rfl
theorem below_drewN {B : Nat} {a w : World} (h : Below B a w) (n : Nat) : Below B a (w.drewN n) := ⟨h.os, h.tape, h.output, h.size, h.block⟩

theorem vs_one (k : IntKind) (l : List Nat) : (vs k l).all (·.oneCell') = true := by
  rw [Array.all_eq_true_iff_forall_mem]
  intro v hv
  obtain ⟨n, _, rfl⟩ := List.mem_map.1 (by simpa [vs] using hv : v ∈ l.map fun n : Nat => Value.int k n)
  rfl
theorem Row.setRow (h : Row k t w g l) (l' : List Nat) : Row k t (w.setRow g (vs k l')) g l' := setRow_heap w g _ _ t _ h
theorem Row.setRowOther (h : Row k t w g l) (cs : Array Value) (hg : g ≠ g') : Row k t (w.setRow g' cs) g l :=
  (setRow_other w g' g cs hg).trans h

/-- A region that draws its order, reads and calls quietly, and ends in a forced tail: its world under a name. -/
theorem region_tail {P : Program} {id : Nat} {Q : Exit → Act → World → Prop} {a : Act} {w : World} {l : List Oper} (n : Nat) (hm : P.follows .mixedOrders = true) (hB : Region.lexTailB .any l.toArray n = true)
    (h : ∀ w2, Hid (w2 = w.drew) → wpStill P l.toArray w2 (fun a' => wpList P l.toArray Q (l.drop n) a' w2) (l.take n) a) : (Code.region id l.toArray true).wp P Q a w :=
  wp_region_still_tail n hm hB (h _ rfl)
theorem region_still {P : Program} {id : Nat} {Q : Exit → Act → World → Prop} {a : Act} {w : World} {l : List Oper} (hm : P.follows .mixedOrders = true) (hB : Region.lexB .any l.toArray = true)
    (h : ∀ w2, Hid (w2 = w.drew) → wpStill P l.toArray w2 (fun a' => Q .normal a' w2) l a) : (Code.region id l.toArray true).wp P Q a w :=
  wp_region_still_lit hm hB (h _ rfl)
theorem below_hid {B : Nat} {a w w2 : World} (h : Below B a w) (e : Hid (w2 = w.drew)) : Below B a w2 := by rw [e.out]; exact h.drew
theorem Row.hid {w2 : World} (h : Row k t w g l) (e : Hid (w2 = w.drew)) : Row k t w2 g l := by rw [e.out]; exact h.drew

/-- A whole array stored into a block of known numbers; the world behind it under a name. -/
theorem store_law {P : Program} {ops : Array Oper} {rest : List Oper} {o : Oper} {a : Act} {w : World} {Q : Exit → Act → World → Prop} (hgd : o.guard = none) (ty : TypeId) (x y : Operand) (ho : o.op = .store ty x y)
    (g : Nat) (k : IntKind) (l0 l : List Nat) (hx : a.eval x = .pointer (some ⟨g, 0, none⟩)) (hy : a.eval y = .agg (vs k l))
    (t : TypeId) (hg : Row k t w g l0) (hl : l0.length = l.length) (hi : (P.info? ty).map (·.size) = some l.length)
    (h : ∀ w', Hid (w' = w.setRow g (vs k l)) → wpList P ops Q rest (a.put o.dst undef) w') : wpList P ops Q (o :: rest) a w :=
  wpList_store_row hgd ty x y ho g (vs k l) hx hy t (vs k l0) hg (by rw [vs_size]; exact hi) (by rw [vs_size, vs_size, hl]) (vs_one _ _) (h _ rfl)
theorem load_law {P : Program} {ops : Array Oper} {rest : List Oper} {o : Oper} {a : Act} {w : World} {Q : Exit → Act → World → Prop} (hgd : o.guard = none) (ty : TypeId) (x : Operand) (ho : o.op = .load ty x)
    (g : Nat) (k : IntKind) (l : List Nat) (hx : a.eval x = .pointer (some ⟨g, 0, none⟩)) (t : TypeId) (d : TypeDesc) (hg : Row k t w g l)
    (hu : P.underlying ty = some d) (hd : (match d with | .struct _ | .array _ _ => true | _ => false) = true) (hi : (P.info? ty).map (·.size) = some l.length)
    (h : wpList P ops Q rest (a.put o.dst (.agg (vs k l))) w) : wpList P ops Q (o :: rest) a w :=
  wpList_load_row hgd ty x ho g hx t (vs k l) (0, 0) d hg hu hd (by rw [vs_size]; exact hi) h
theorem Row.hidSet {w2 : World} {l' : List Nat} (h : Row k t w g l) (e : Hid (w2 = w.setRow g (vs k l'))) : Row k t w2 g l' := by rw [e.out]; exact h.setRow l'
theorem Row.hidOther {w2 : World} {cs : Array Value} (h : Row k t w g l) (e : Hid (w2 = w.setRow g' cs)) (hg : g ≠ g') : Row k t w2 g l := by rw [e.out]; exact h.setRowOther cs hg
theorem below_hidSet {B : Nat} {a w w2 : World} {cs : Array Value} (h : Below B a w) (e : Hid (w2 = w.setRow g cs)) (hg : B ≤ g) : Below B a w2 := by rw [e.out]; exact below_setRow h hg cs
theorem size_hidSet {w2 : World} {cs : Array Value} (e : Hid (w2 = w.setRow g cs)) : w2.heap.size = w.heap.size := by rw [e.out]; simp
theorem results_row {P : Program} {fn : Func} {p : Tmp} {ty : TypeId} (h : fn.results = #[.cell p ty]) (tmps : Array Value) (w : World) (g : Nat) (k : IntKind) (t : TypeId) (l : List Nat) (d : TypeDesc)
    (hp : tmps.getD p undef = .pointer (some ⟨g, 0, none⟩)) (hg : Row k t w g l)
    (hu : P.underlying ty = some d) (hd : (match d with | .struct _ | .array _ _ => true | _ => false) = true) (hi : (P.info? ty).map (·.size) = some l.length) :
    (results fn tmps).run P w = .ok (.agg (vs k l)) w :=
  results_cell_row h tmps w g t (vs k l) (0, 0) d hp hg hu hd (by rw [vs_size]; exact hi)

/-- A whole array loaded, the operation guarded or not. -/
theorem load_w {P : Program} {ops : Array Oper} {rest : List Oper} {o : Oper} {a : Act} {w : World} {Q : Exit → Act → World → Prop} (hgd : Region.wanted o (yielded ops a.tmps) = true) (ty : TypeId) (x : Operand) (ho : o.op = .load ty x)
    (g : Nat) (k : IntKind) (l : List Nat) (hx : a.eval x = .pointer (some ⟨g, 0, none⟩)) (t : TypeId) (d : TypeDesc) (hg : Row k t w g l)
    (hu : P.underlying ty = some d) (hd : (match d with | .struct _ | .array _ _ => true | _ => false) = true) (hi : (P.info? ty).map (·.size) = some l.length)
    (h : wpList P ops Q rest (a.put o.dst (.agg (vs k l))) w) : wpList P ops Q (o :: rest) a w :=
  BigFrame.wpList_want hgd fun _ hK => wp_load_row ty x ho g hx t (vs k l) (0, 0) d hg hu hd (by rw [vs_size]; exact hi) (hK _ _ h)
theorem results_row_tmp {P : Program} {fn : Func} {p q : Tmp} {ty : TypeId} (h : fn.results = #[.cell p ty, .tmp q]) (tmps : Array Value) (w : World) (g : Nat) (k : IntKind) (t : TypeId) (l : List Nat) (d : TypeDesc)
    (hp : tmps.getD p undef = .pointer (some ⟨g, 0, none⟩)) (hg : Row k t w g l)
    (hu : P.underlying ty = some d) (hd : (match d with | .struct _ | .array _ _ => true | _ => false) = true) (hi : (P.info? ty).map (·.size) = some l.length) :
    (results fn tmps).run P w = .ok (.tuple #[.agg (vs k l), tmps.getD q undef]) w := by
  have hp' : tmps[p]?.getD undef = .pointer (some ⟨g, 0, none⟩) := by simpa using hp
  simp [results, h, hp', asAddr, run_loadVar_row w g t ty (vs k l) (0, 0) d hg hu hd (by rw [vs_size]; exact hi)]
theorem made_zeros (k : IntKind) (n : Nat) : madeCells #[Value.int k 0] n = vs k (List.replicate n 0) := by
  apply Array.ext_getElem?
  intro i
  by_cases h : i < n
  · rw [vs_get k _ i (by simpa using h), Mk.nth_replicate]
    simp [madeCells, h, Nat.mod_one]
  · rw [Array.getElem?_eq_none (by simp [madeCells]; omega), Array.getElem?_eq_none (by simp [vs]; omega)]
/-- make([]byte, n): a block of zeros. -/
theorem make_law {P : Program} {w : World} {ops : Array Oper} {rest : List Oper} {o : Oper} {a : Act} {Q : Exit → Act → World → Prop}
    (hg : o.guard = none) (x y : Operand) (t : TypeId) (hop : o.op = Op.makeSlice t x y) (e : TypeId) (k : IntKind) (h1 : P.underlying t = some (.slice e))
    (h2 : (P.info? e).map (fun i => (i.zero, i.size, i.bytes)) = some (some (.int k 0), 1, 1)) (kl kc : IntKind) (L C : Int) (n : Nat) (hl : a.eval x = .int kl L) (hc : a.eval y = .int kc C)
    (hL : L = (n : Int)) (hC : C = (n : Int)) (hn : n ≤ 281474976710656)
    (h : ∀ w', Hid (w' = w.alloc (.cells (vs k (List.replicate n 0)) e)) → wpList P ops Q rest (a.put o.dst (.slice (some ⟨w.heap.size, 0, none⟩) n n)) w') : wpList P ops Q (o :: rest) a w := by
  refine wpList_plain hg fun K hK' => ?_
  obtain ⟨i, hi, hz0, hz1, hz2⟩ := info_parts h2
  subst hL
  subst hC
  have hrun := run_make (P := P) w t e i _ h1 hi hz0 kl kc (n : Int) (n : Int) (by omega) (by omega) (by rw [hz2]; omega) (by omega)
  simp only [Int.toNat_natCast, hz1, Nat.mul_one, Value.cells, made_zeros] at hrun
  unfold Oper.wp
  simp [execOp, hop, hl, hc, hrun, Result.andThen]
  exact hK' _ _ (h _ rfl)
theorem Row.hidNew {w2 : World} (e : Hid (w2 = w.alloc (.cells (vs k l) t))) : Row k t w2 w.heap.size l := by rw [e.out]; exact Row.new w k t l _ rfl
theorem Row.hidAlloc {w2 : World} {o : Obj} (h : Row k t w g l) (e : Hid (w2 = w.alloc o)) : Row k t w2 g l := by rw [e.out]; exact h.alloc o
theorem below_hidAlloc {B : Nat} {a w w2 : World} {o : Obj} (h : Below B a w) (e : Hid (w2 = w.alloc o)) (hB : B ≤ w.heap.size) : Below B a w2 := by rw [e.out]; exact h.alloc hB o
/-- A class of worlds: whatever lies below B is as in w. -/
structure In (B : Nat) (w : World) where
  val : World
  ok : Below B w val
/-- A region that draws its order, whose own operations only read, and whose callees leave what lies below B: one walk. -/
theorem region_in {P : Program} {id : Nat} {Q : Exit → Act → World → Prop} {a : Act} {w : World} {l : List Oper} (B : Nat) (hm : P.follows .mixedOrders = true) (hB : Region.lexB .any l.toArray = true)
    (h : wpQuiet P l.toArray (fun w' => ∃ n : In B w, w' = n.val) (fun a' => ∀ w', Below B w w' → Q .normal a' w') l a) : (Code.region id l.toArray true).wp P Q a w := by
  refine wp_region_quiet (C := fun w' => ∃ n : In B w, w' = n.val) hm hB ⟨⟨_, (Below.refl B w).drew⟩, rfl⟩ ?_
  have e : (fun a' : Act => ∀ w', (∃ n : In B w, w' = n.val) → Q .normal a' w') = fun a' : Act => ∀ w', Below B w w' → Q .normal a' w' := by
    funext a'
    apply propext
    constructor
    · intro h w' hb; exact h w' ⟨⟨w', hb⟩, rfl⟩
    · rintro h w' ⟨n, rfl⟩; exact h _ n.ok
  rw [e]
  simpa using h
theorem In.cell {B : Nat} {w : World} {p : Addr} {v : Value} (hp : p.block < B) (h : w.cell? p = some v) (n : In B w) : n.val.cell? p = some v := (n.ok.cell hp).trans h
/-- A callee's contract in a world of the class. -/
theorem Calls.in_of {P : Program} {f : FuncId} {args : Array Value} {B : Nat} {w : World} {n : In B w} {v : Value} (hB : B ≤ w.heap.size)
    (h : Calls P f args n.val fun e w' => e = .returned v ∧ Below n.val.heap.size n.val w') : Calls P f args n.val fun e w'' => e = .returned v ∧ ∃ m : In B w, w'' = m.val :=
  h.mono fun _ w' ⟨he, hm⟩ => ⟨he, ⟨w', n.ok.trans (hm.mono (Nat.le_trans hB n.ok.size))⟩, rfl⟩

end Go.Proofs.Ythmlibapjhmdbaa
/- The leaf functions of mask and cores: isCore, within, count. -/
namespace Go.Proofs.Ythmlibapjhmdbaa
open Go.RowKit

set_option maxHeartbeats 400000 in
theorem isCore_yes (c : Int) (w : World) (h0 : 0 ≤ c) (h1 : c < 256) :
    Calls Try.prog 72 #[.int .i64 c] w fun e w' => e = .returned (.bool true) ∧ w = w' := by
  go_enter Try.func72, Try.ntmps72
  go_wp2
  go_ret
  exact ⟨rfl, rfl⟩

set_option maxHeartbeats 400000 in
theorem isCore_low (c : Int) (w : World) (h0 : c < 0) :
    Calls Try.prog 72 #[.int .i64 c] w fun e w' => e = .returned (.bool false) ∧ w = w' := by
  have hd : decide (0 ≤ c) = false := by simp; omega
  go_enter Try.func72, Try.ntmps72
  go_wp2
  go_ret
  exact ⟨rfl, rfl⟩

set_option maxHeartbeats 400000 in
theorem isCore_high (c : Int) (w : World) (h0 : 256 ≤ c) :
    Calls Try.prog 72 #[.int .i64 c] w fun e w' => e = .returned (.bool false) ∧ w = w' := by
  have h1 : 0 ≤ c := by omega
  have hd : decide (c < 256) = false := by simp; omega
  go_enter Try.func72, Try.ntmps72
  go_wp2
  go_ret
  exact ⟨rfl, rfl⟩
theorem isCore_no (c : Int) (w : World) (h : c < 0 ∨ 256 ≤ c) :
    Calls Try.prog 72 #[.int .i64 c] w fun e w' => e = .returned (.bool false) ∧ w = w' := by
  rcases h with h | h
  · exact isCore_low c w h
  · exact isCore_high c w h

set_option maxHeartbeats 400000 in
theorem within_yes (c m : Int) (w : World) (h0 : 1 ≤ c) (h1 : c ≤ m) :
    Calls Try.prog 49 #[.int .i64 c, .int .i64 m] w fun e w' => e = .returned (.bool true) ∧ w = w' := by
  go_enter Try.func49, Try.ntmps49
  go_wp2
  go_ret
  exact ⟨rfl, rfl⟩
set_option maxHeartbeats 400000 in
theorem within_low (c m : Int) (w : World) (h0 : c < 1) :
    Calls Try.prog 49 #[.int .i64 c, .int .i64 m] w fun e w' => e = .returned (.bool false) ∧ w = w' := by
  have hd : decide (1 ≤ c) = false := by simp; omega
  go_enter Try.func49, Try.ntmps49
  go_wp2
  go_ret
  exact ⟨rfl, rfl⟩
set_option maxHeartbeats 400000 in
theorem within_high (c m : Int) (w : World) (h0 : 1 ≤ c) (h1 : m < c) :
    Calls Try.prog 49 #[.int .i64 c, .int .i64 m] w fun e w' => e = .returned (.bool false) ∧ w = w' := by
  have hd : decide (c ≤ m) = false := by simp; omega
  go_enter Try.func49, Try.ntmps49
  go_wp2
  go_ret
  exact ⟨rfl, rfl⟩
theorem within_no (c m : Int) (w : World) (h : c < 1 ∨ m < c) :
    Calls Try.prog 49 #[.int .i64 c, .int .i64 m] w fun e w' => e = .returned (.bool false) ∧ w = w' := by
  by_cases h0 : c < 1
  · exact within_low c m w h0
  · exact within_high c m w (by omega) (by omega)

set_option maxHeartbeats 400000 in
theorem count_any (s p : Int) (w : World) (h0 : IntKind.i64.wrap (s * p) = s * p) :
    Calls Try.prog 43 #[.agg #[.int .i64 s, .int .i64 p]] w fun e w' => e = .returned (.int .i64 (s * p)) ∧ Below w.heap.size w w' := by
  go_enter Try.func43, Try.ntmps43
  go_wp2
  go_ret
  exact ⟨rfl, (Below.refl _ _).alloc (Nat.le_refl _) _⟩
end Go.Proofs.Ythmlibapjhmdbaa
/- with, Has. -/
namespace Go.Proofs.Ythmlibapjhmdbaa
open Go.RowKit

theorem info33 : (Try.prog.info? 40).map (·.size) = some 4 := by kernel_rfl
theorem zeros4 : #[Value.int IntKind.u64 0, Value.int IntKind.u64 0, Value.int IntKind.u64 0, Value.int IntKind.u64 0] = vs .u64 Mk.zero := rfl
theorem size_alloc (w : World) (o : Obj) : (w.alloc o).heap.size = w.heap.size + 1 := by simp

theorem test_bit (x k : Nat) (hx : x < 2 ^ 64) (_hk : k < 64) : (bits BinOp.and IntKind.u64 ((x : Int) / 2 ^ k) 1 == 1) = x.testBit k := by
  have e : (x : Int) / 2 ^ k = ((x / 2 ^ k : Nat) : Int) := by simp
  have hlt : x / 2 ^ k < 18446744073709551616 := Nat.lt_of_le_of_lt (Nat.div_le_self _ _) hx
  rw [e, show (1 : Int) = ((1 : Nat) : Int) from rfl, u64_and_nat _ _ hlt (by decide), Nat.and_one_is_mod, Nat.testBit_eq_decide_div_mod_eq]
  generalize x / 2 ^ k % 2 = y
  rw [Bool.eq_iff_iff]
  simp
  omega

theorem or_bit (x k : Nat) (hx : x < 2 ^ 64) (hk : k < 64) : bits BinOp.or IntKind.u64 (x : Int) (IntKind.u64.wrap (2 ^ k)) = ((x ||| 2 ^ k : Nat) : Int) := by
  have hp : 2 ^ k < 18446744073709551616 := Nat.pow_lt_pow_right (a := 2) (m := k) (n := 64) (by decide) hk
  have e : IntKind.u64.wrap (2 ^ k) = ((2 ^ k : Nat) : Int) := by
    have : (2 : Int) ^ k = ((2 ^ k : Nat) : Int) := by simp
    rw [IntKind.wrap_u64, this]
    generalize 2 ^ k = y at hp
    omega
  rw [e, u64_or_nat _ _ hx hp]

set_option maxRecDepth 100000 in
set_option maxHeartbeats 400000 in
theorem has_in (l : List Nat) (c : Nat) (w : World) (hl : Mk.W4 l) (hc : c < 256) :
    Calls Try.prog 71 #[.agg (vs .u64 l), .int .i64 c] w fun e w' => e = .returned (.bool (Mk.hasB l c)) ∧ Below w.heap.size w w' := by
  have HL := Lib.hid hl
  clear hl
  have r0 := Row.new w .u64 40 l _ rfl
  have hc0 := r0.cell (c / 64) (by rw [HL.out.1]; omega)
  go_enter Try.func71, Try.ntmps71
  go_wp2_with (go_at_call 72; refine (isCore_yes _ _ (by omega) (by omega)).mono ?_; rintro e w' ⟨rfl, rfl⟩)
  go_ret
  refine ⟨?_, (Below.refl _ _).alloc (Nat.le_refl _) _⟩
  rw [Mk.hasB]
  exact congrArg (fun b => Ending.returned (Value.bool b)) (test_bit _ _ (HL.out.2 _) (by omega))

set_option maxRecDepth 100000 in
set_option maxHeartbeats 400000 in
theorem with_any (l : List Nat) (c : Nat) (w : World) (hl : Mk.W4 l) (hc : c < 256) :
    Calls Try.prog 68 #[.agg (vs .u64 l), .int .i64 c] w fun e w' => e = .returned (.agg (vs .u64 (Mk.wth l c))) ∧ Below w.heap.size w w' := by
  have HL := Lib.hid hl
  clear hl
  have b1 : (0 : Int) ≤ (c : Int) / 64 := by omega
  have b2 : (c : Int) / 64 < 4 := by omega
  have b3 : (0 : Int) ≤ (c : Int) % 64 := by omega
  have b4 : (c : Int) % 64 < 64 := by omega
  have c1 : ((c : Int) / 64).toNat = c / 64 := by omega
  have c2 : ((c : Int) % 64).toNat = c % 64 := by omega
  have a1 : IntKind.i64.wrap ((c : Int) / 64) = (c : Int) / 64 := IntWalk.i64_in _ (by omega)
  have a2 : (c : Int).tmod 64 = (c : Int) % 64 := Int.tmod_eq_emod_of_nonneg (by omega)
  go_enter Try.func68, Try.ntmps68
  go_wp2_with fail
  refine region_tail 9 (by kernel_rfl) (by kernel_rfl) (fun w2 hw2 => ?_)
  have r0 := ((Row.new w .u64 40 l _ rfl).alloc (.cells (vs .u64 Mk.zero) 40)).hid hw2
  have r1 : Row .u64 40 w2 (w.heap.size + 1) Mk.zero := by
    have := Row.new (w.alloc (.cells (vs .u64 l) 40)) .u64 40 Mk.zero _ rfl
    rw [size_alloc] at this
    exact this.hid hw2
  have hb : Below w.heap.size w w2 := below_hid (((Below.refl _ _).alloc (Nat.le_refl _) _).alloc (by simp) _) hw2
  clear hw2
  have hc0 := r0.cell (c / 64) (by rw [HL.out.1]; omega)
  have hf := r0.frozen (c / 64)
  simp only [List.take_succ_cons, List.take_zero, List.drop_succ_cons, List.drop_zero]
  have e0 := or_bit (Mk.nth l (c / 64)) (c % 64) (HL.out.2 _) (by omega)
  repeat still_step
  refine wpStill_nil ?_
  clear e0
  have r2 : Row .u64 40 (w2.setCell ⟨w.heap.size, c / 64, none⟩ (.int .u64 ((Mk.nth l (c / 64) ||| 2 ^ (c % 64) : Nat) : Int))) w.heap.size (Mk.wth l c) := r0.set (c / 64) _
  have r3 := r1.setOther (a := ⟨w.heap.size, c / 64, none⟩) (.int .u64 ((Mk.nth l (c / 64) ||| 2 ^ (c % 64) : Nat) : Int)) (by simp)
  have hb3 := hb.setCell (p := ⟨w.heap.size, c / 64, none⟩) (Nat.le_refl _) (.int .u64 ((Mk.nth l (c / 64) ||| 2 ^ (c % 64) : Nat) : Int))
  have hz := Lib.hid (show (Try.prog.info? 40).map (·.size) = some (Mk.wth l c).length by rw [(HL.out.wth hc).1]; exact info33)
  have hlen := Lib.hid (show Mk.zero.length = (Mk.wth l c).length by rw [(HL.out.wth hc).1]; rfl)
  go_wp2_with (first | (refine load_law rfl 40 _ rfl w.heap.size .u64 (Mk.wth l c) rfl 40 _ r2 Try.underlying40 rfl hz.out ?_) | (refine store_law rfl 40 _ _ rfl (w.heap.size + 1) .u64 Mk.zero (Mk.wth l c) rfl rfl 40 r3 hlen.out hz.out ?_; intro w7 hw7))
  exact bodyPost_ret (results_row rfl _ _ (w.heap.size + 1) .u64 40 _ _ rfl (r3.hidSet hw7) Try.underlying40 rfl hz.out) rfl ⟨rfl, below_hidSet hb3 hw7 (by omega)⟩
end Go.Proofs.Ythmlibapjhmdbaa
