/- Lowest. -/
import Derived.Test.YthmlibapjhmdbaaDoorW11
import Derived.WalkMore
import Derived.Scope
namespace Go.Proofs.YthmlibapjhmdbaaDoor
open Go.RowKit Go.Shelf

attribute [local go_sem] Oper.semAt_some

theorem load_in {F : Fence} {n : Nat} {P : Program} {ops : Array Oper} {rest : List Oper} {o : Oper} {a : Act} {w : World} {Q : Exit → Act → World → Prop} (hgd : o.guard = none) (ty : TypeId) (x : Operand) (ho : o.op = .load ty x)
    (g : Nat) (k : IntKind) (l : List Nat) (hx : a.eval x = .pointer (some ⟨g, 0, none⟩)) (t : TypeId) (d : TypeDesc) (hg : Row k t w g l)
    (hu : P.underlying ty = some d) (hd : (match d with | .struct _ | .array _ _ => true | _ => false) = true) (hi : (P.info? ty).map (·.size) = some l.length)
    (h : wpListIn F n P ops Q rest (a.put o.dst (.agg (vs k l))) w) : wpListIn F n P ops Q (o :: rest) a w := by
  refine wpListIn_plain hgd fun K hK => ?_
  unfold Oper.wpIn
  refine ⟨by simp [Oper.about, ho], ?_⟩
  rw [Oper.semAt_plain F _ _ (by rw [ho]; intro c hc'; cases hc')]
  simp only [execOp, ho, hx, Instr.loadAt, Instr.sureAddr, Sem.run_bind, Sem.run_pure, Result.andThen_ok, run_loadVar_row w g t ty (vs k l) (0, 0) d hg hu hd (by rw [vs_size]; exact hi)]
  exact hK _ _ h
theorem store_in {F : Fence} {n : Nat} {P : Program} {ops : Array Oper} {rest : List Oper} {o : Oper} {a : Act} {w : World} {Q : Exit → Act → World → Prop} (hgd : o.guard = none) (ty : TypeId) (x y : Operand) (ho : o.op = .store ty x y)
    (g : Nat) (k : IntKind) (l0 l : List Nat) (hx : a.eval x = .pointer (some ⟨g, 0, none⟩)) (hy : a.eval y = .agg (vs k l))
    (t : TypeId) (hg : Row k t w g l0) (hl : l0.length = l.length) (hi : (P.info? ty).map (·.size) = some l.length)
    (h : ∀ w', Hid (w' = w.setRow g (vs k l)) → wpListIn F n P ops Q rest (a.put o.dst undef) w') : wpListIn F n P ops Q (o :: rest) a w := by
  refine wpListIn_plain hgd fun K hK => ?_
  unfold Oper.wpIn
  refine ⟨by simp [Oper.about, ho], ?_⟩
  rw [Oper.semAt_plain F _ _ (by rw [ho]; intro c hc'; cases hc')]
  simp only [execOp, ho, hx, hy, Instr.storeAt, Instr.sureAddr, Sem.run_bind, Sem.run_pure, Result.andThen_ok, run_storeVar_row w g t ty (vs k l0) (vs k l) hg (by rw [vs_size]; exact hi) (by rw [vs_size, vs_size, hl]) (vs_one _ _)]
  exact hK _ _ (h _ rfl)
/-- A block with these cells. -/
def Bk (w : World) (g : Nat) (t : TypeId) (cs : Array Value) : Prop := w.heap[g]? = some (.cells cs t (0, 0))
theorem Bk.lt {w : World} {g : Nat} {t : TypeId} {cs : Array Value} (h : Bk w g t cs) : g < w.heap.size := (Array.getElem?_eq_some_iff.1 h).1
theorem Bk.cell {w : World} {g : Nat} {t : TypeId} {cs : Array Value} (h : Bk w g t cs) (i : Nat) (v : Value) (hv : cs[i]? = some v) : w.cell? ⟨g, i, none⟩ = some v := (cell_of_row w g i cs t (0, 0) h).trans hv
theorem Bk.frozen {w : World} {g : Nat} {t : TypeId} {cs : Array Value} (h : Bk w g t cs) (i : Nat) : w.frozen? ⟨g, i, none⟩ = false := frozen_of_row w g i cs t h
theorem Bk.below {w w' : World} {B g : Nat} {t : TypeId} {cs : Array Value} (h : Bk w g t cs) (hb : Below B w w') (hg : g < B) : Bk w' g t cs := (hb.block g hg).trans h
theorem Bk.next {w w' : World} {g : Nat} {t : TypeId} {cs : Array Value} (h : Bk w g t cs) (hb : Below w.heap.size w w') : Bk w' g t cs := h.below hb h.lt
theorem Bk.alloc {w : World} {g : Nat} {t : TypeId} {cs : Array Value} (h : Bk w g t cs) (o : Obj) : Bk (w.alloc o) g t cs := (Below.heap_alloc w o g h.lt).trans h
theorem Bk.new (w : World) (t : TypeId) (cs : Array Value) : Bk (w.alloc (.cells cs t)) w.heap.size t cs := heap_alloc_new w _
theorem Row.next {k : IntKind} {t : TypeId} {w w' : World} {g : Nat} {l : List Nat} (h : Row k t w g l) (hb : Below w.heap.size w w') : Row k t w' g l := h.below hb h.lt
/-- A block of cells abides what an iterator does. -/
theorem ownFrom_row {α : Type} (B g t : Nat) (k : IntKind) (f : List α → List Nat) : OwnFrom B (fun pre W => Row k t W g (f pre)) :=
  fun _ _ _ _ hs hg hr => (grownBy_keeps_cells hg (fun r e => (hr r e).2) hs rfl).trans hs
theorem ownFrom_pure {α : Type} (B : Nat) (p : List α → Prop) : OwnFrom B (fun pre _ => p pre) := fun _ _ _ _ hs _ _ => hs
/-- The numbers of cores. -/
def nums (l : List Core) : List Nat := l.map (·.1)
theorem nums_lt (l : List Core) : ∀ x ∈ nums l, x < 256 := by
  intro x hx
  obtain ⟨c, _, rfl⟩ := List.mem_map.1 hx
  exact c.2
theorem nums_snoc (l : List Core) (x : Core) : nums (l ++ [x]) = nums l ++ [x.1] := by simp [nums]
theorem lc_prefix (m : List Nat) {k n : Nat} (h : k ≤ n) : lc m k <+: lc m n := by
  unfold lc
  obtain ⟨d, rfl⟩ := Nat.exists_eq_add_of_le h
  rw [List.range_add, List.filter_append, List.map_append]
  exact List.prefix_append _ _
theorem row_putObj {k : IntKind} {t : TypeId} {w : World} {g D : Nat} {l : List Nat} (h : Row k t w g l) (hne : g ≠ D) (o : Obj) : Row k t (w.putObj D o) g l := (World.putObj_heap_other (by omega)).trans h
/-- One number in a block. -/
theorem row_one {k : IntKind} {t : TypeId} {w : World} {g : Nat} {n : Nat} (h : Row k t w g [n]) : w.cell? ⟨g, 0, none⟩ = some (.int k (n : Nat)) := h.cell 0 (by simp)

set_option maxRecDepth 100000 in
set_option maxHeartbeats 400000 in
theorem lowest_neg (a b c e : Nat) (n : Int) (w : World) (hn : n < 0) :
    Calls Tryd.prog 22 #[.agg #[.int .u64 a, .int .u64 b, .int .u64 c, .int .u64 e], .int .i64 n] w fun x w' => x = .returned (.tuple #[.agg (vs .u64 Mk.zero), .int .i64 1]) ∧ Below w.heap.size w w' := by
  have r0 : Row .u64 27 ((w.alloc (.cells #[.int .u64 a, .int .u64 b, .int .u64 c, .int .u64 e] 27)).alloc (.cells (vs .u64 Mk.zero) 27)) (w.heap.size + 1) Mk.zero := by
    have := Row.new (w.alloc (.cells #[.int .u64 a, .int .u64 b, .int .u64 c, .int .u64 e] 27)) .u64 27 Mk.zero _ rfl
    rw [size_alloc] at this
    exact this
  have hb0 := ((Below.refl _ w).alloc (Nat.le_refl _) (.cells #[.int .u64 a, .int .u64 b, .int .u64 c, .int .u64 e] 27)).alloc (by simp) (.cells (vs .u64 Mk.zero) 27)
  have hz := Lib.hid (info33' Mk.W4.zero)
  go_enter Tryd.func22, Tryd.ntmps22
  go_wp2_with fail
  go_step3
  go_wp2_with (refine store_law rfl 27 _ _ rfl (w.heap.size + 1) .u64 Mk.zero Mk.zero rfl rfl 27 r0 rfl hz.out ?_; intro w7 hw7)
  rw [Exit.noGoto_ret]
  exact bodyPost_ret (results_row_tmp rfl _ _ (w.heap.size + 1) .u64 27 _ _ rfl (r0.hidSet hw7) Tryd.underlying27 rfl hz.out) rfl ⟨rfl, below_hidSet hb0 hw7 (by omega)⟩

theorem keeps_setRow {k : IntKind} {t : TypeId} {w w2 : World} {g : Nat} {l : List Nat} {cs : Array Value} (h : Row k t w g l) (e : Hid (w2 = w.setRow g cs)) : KeepsOthers w w2 := by
  refine ⟨by rw [size_hidSet e]; exact Nat.le_refl _, fun i o hi ho => ?_⟩
  rw [e.out]
  have hne : i ≠ g := by
    rintro rfl
    unfold Row at h
    rw [h] at hi
    cases hi
    cases ho
  rw [setRow_other w g i cs hne]
  exact hi
theorem keeps_setCell {k : IntKind} {t : TypeId} {w : World} {g j : Nat} {l : List Nat} {v : Value} (h : Row k t w g l) : KeepsOthers w (w.setCell ⟨g, j, none⟩ v) := by
  refine ⟨by simp, fun i o hi ho => ?_⟩
  have hne : i ≠ g := by
    rintro rfl
    unfold Row at h
    rw [h] at hi
    cases hi
    cases ho
  exact (heap_setCell_other w ⟨g, j, none⟩ i v hne).trans hi
/-- What Lowest tells: the mask, and the code. -/
def lowOut (m : List Nat) (n : Nat) : List Nat × Nat := if n ≤ (lc m 256).length then (Mk.ofL (nums ((lc m 256).take n)), 0) else (Mk.zero, 12)

set_option maxRecDepth 100000 in
set_option maxHeartbeats 2000000 in
theorem lowest_nat (a b c e n : Nat) (w : World) (hm : Mk.W4 [a, b, c, e]) (G : Glob w) (hn : n < 9223372036854775808) :
    Calls Tryd.prog 22 #[.agg #[.int .u64 a, .int .u64 b, .int .u64 c, .int .u64 e], .int .i64 n] w fun x w' => x = .returned (.tuple #[.agg (vs .u64 (lowOut [a, b, c, e] n).1), .int .i64 ((lowOut [a, b, c, e] n).2 : Nat)]) ∧ Below w.heap.size w w' := by
  have HM := Lib.hid hm
  have HN := Lib.hid hn
  clear hm hn
  have hn0 : decide ((n : Int) < 0) = false := by simp
  have r0 : Row .u64 27 ((w.alloc (.cells #[.int .u64 a, .int .u64 b, .int .u64 c, .int .u64 e] 27)).alloc (.cells (vs .u64 Mk.zero) 27)) (w.heap.size + 1) Mk.zero := by
    have := Row.new (w.alloc (.cells #[.int .u64 a, .int .u64 b, .int .u64 c, .int .u64 e] 27)) .u64 27 Mk.zero _ rfl
    rw [size_alloc] at this
    exact this
  have hb0 := ((Below.refl _ w).alloc (Nat.le_refl _) (.cells #[.int .u64 a, .int .u64 b, .int .u64 c, .int .u64 e] 27)).alloc (by simp) (.cells (vs .u64 Mk.zero) 27)
  have G1 := G.next hb0
  refine (callsIn_wide (n := 5)).1 ?_
  refine callsIn_of_wp_marks Tryd.func22 rfl trivial ?_ rfl
  simp only [Tryd.ntmps22, List.size_toArray, List.length_cons, List.length_nil, Nat.reduceAdd, Nat.reduceSub, Array.replicate_succ, Array.replicate_zero, List.push_toArray, List.append_toArray, List.nil_append, List.cons_append]
  gi_wp2_with fail
  refine wpIn_wide.2 (wp_scope_straight ((wpIn_wide (n := 5)).1 ?_))
  gi_wp2_with fail
  refine wpIn_label ?_
  gi_wp2_with fail
  obtain ⟨W1, hW1⟩ : ∃ W1, W1 = (w.alloc (.cells #[.int .u64 a, .int .u64 b, .int .u64 c, .int .u64 e] 27)).alloc (.cells #[.int .u64 0, .int .u64 0, .int .u64 0, .int .u64 0] 27) := ⟨_, rfl⟩
  have hs1 : W1.heap.size = w.heap.size + 1 + 1 := by rw [hW1]; simp
  replace r0 : Row .u64 27 W1 (w.heap.size + 1) Mk.zero := by rw [hW1]; exact r0
  replace hb0 : Below w.heap.size w W1 := by rw [hW1]; exact hb0
  replace G1 : Glob W1 := by rw [hW1]; exact G1
  rw [← hW1]
  generalize hBB : w.heap.size + 1 + 1 = B at hs1 ⊢
  subst hs1
  have rO := (Row.new W1 .u64 27 Mk.zero #[.int .u64 0, .int .u64 0, .int .u64 0, .int .u64 0] rfl).alloc (.cells #[.int .i64 (n : Nat)] 3)
  have rL : Row .i64 3 ((W1.alloc (.cells #[.int .u64 0, .int .u64 0, .int .u64 0, .int .u64 0] 27)).alloc (.cells #[.int .i64 (n : Nat)] 3)) (W1.heap.size + 1) [n] := by
    have := Row.new (W1.alloc (.cells #[.int .u64 0, .int .u64 0, .int .u64 0, .int .u64 0] 27)) .i64 3 [n] #[.int .i64 (n : Nat)] rfl
    rw [size_alloc] at this
    exact this
  have hB0 : Below W1.heap.size W1 ((W1.alloc (.cells #[.int .u64 0, .int .u64 0, .int .u64 0, .int .u64 0] 27)).alloc (.cells #[.int .i64 (n : Nat)] 3)) := ((Below.refl _ W1).alloc (Nat.le_refl _) _).alloc (by simp) _
  have G2 := G1.next hB0
  clear hW1 G
  refine wpIn_rangeFunc_bound rfl (by omega) (gf := 39) (bd := #[.agg #[.int .u64 a, .int .u64 b, .int .u64 c, .int .u64 e]]) rfl trivial each_enters
    (each_stops 4 W1.heap.size a b c e (by omega) _ HM.out G2 (by simp; omega) G1.five) belowK_t (belowK_b (by simp; omega)) (Below.refl _ _) (fun _ => rfl)
    (fun pre W => Row .u64 27 W W1.heap.size (Mk.ofL (nums pre)) ∧ Row .i64 3 W (W1.heap.size + 1) [n - pre.length] ∧ pre.length ≤ n ∧ Below W1.heap.size W1 W)
    (fun cc pre W => Row .u64 27 W W1.heap.size (Mk.ofL (nums pre.dropLast)) ∧ Row .i64 3 W (W1.heap.size + 1) [0] ∧ (cc = .exit 0 ∧ pre ≠ [] ∧ pre.dropLast.length = n) ∧ Below W1.heap.size W1 W)
    (OwnFrom.and (ownFrom_row _ _ _ _ _) (OwnFrom.and (ownFrom_row _ _ _ _ _) (OwnFrom.and (ownFrom_pure _ _) (ownFrom_below (Nat.le_refl _) (by simp; omega)))))
    (fun cc => OwnFrom.and (ownFrom_row _ _ _ _ _) (OwnFrom.and (ownFrom_row _ _ _ _ _) (OwnFrom.and (ownFrom_pure _ _) (ownFrom_below (Nat.le_refl _) (by simp; omega)))))
    ⟨rO, rL, Nat.zero_le _, hB0⟩
    ?a1 ?assign ?body ?done ?stop
  case assign =>
    intro l x W K hK
    gi_wp2
    exact hK
  case body =>
    rintro l pre x W ⟨hr, hl, hle, hB⟩ hlt
    have c7 := row_one hl
    have f7 := hl.frozen 0
    by_cases hnn : pre.length = n
    · have HP := Lib.hid hnn
      rw [HP.out, Nat.sub_self] at c7 hl
      clear hnn f7
      gi_wp2_with fail
      exact ⟨KeepsFrom.refl _ _, by rw [List.dropLast_concat]; exact hr, hl, ⟨rfl, by simp, by rw [List.dropLast_concat]; exact HP.out⟩, hB⟩
    · obtain ⟨L, hL⟩ : ∃ L, n - pre.length = L + 1 := ⟨n - pre.length - 1, by omega⟩
      have HLn := Lib.hid (show n - (pre ++ [x]).length = L by simp; omega)
      have HL2 := Lib.hid (show (pre ++ [x]).length ≤ n by simp; omega)
      have hL9 : L < 9223372036854775807 := by have := HN.out; omega
      have hLe : wrap64 (L : Int) = (L : Int) := by unfold wrap64; omega
      have hLf : (((L + 1 : Nat) : Int) == 0) = false := by simp; omega
      have hLg : (((L : Int) + 1) == 0) = false := by simp; omega
      rw [hL] at c7 hl
      clear hL hnn hle hL9
      have HW := Lib.hid (Mk.ofL_W4 (nums_lt pre))
      have HW2 := Lib.hid (HW.out.wth x.2)
      have HS := Lib.hid (show Mk.ofL (nums (pre ++ [x])) = Mk.wth (Mk.ofL (nums pre)) x.1 by rw [nums_snoc, Mk.ofL_snoc])
      have hz := Lib.hid (info33' HW.out)
      have hz2 := Lib.hid (info33' HW2.out)
      have hlen := Lib.hid (len_len HW.out HW2.out)
      generalize Mk.ofL (nums pre) = m at *
      have hd3 : 1 ≤ 3 := by omega
      gi_wp2_with (refine load_in rfl 27 _ rfl W1.heap.size .u64 m rfl 27 _ hr Tryd.underlying27 rfl hz.out ?_)
      refine ⟨trivial, (CallsIn.inRound l (callsIn_wide.2 (with_any m x.1 _ HW.out x.2))).mono ?_⟩
      rintro e2 W2 ⟨rfl, hb2⟩
      have hk2 := keeps_next hb2
      have hbw := hb2.mono hB.size
      have hB2 := hB.trans hbw
      replace hr := hr.next hb2
      replace hl := hl.next hb2
      clear hb2 c7 f7
      gi_wp2_with (refine store_in rfl 27 _ _ rfl W1.heap.size .u64 m (Mk.wth m x.1) rfl rfl 27 hr hlen.out hz2.out ?_; intro w7 hw7; have hl7 := hl.hidOther hw7 (by omega); have c7 := row_one hl7; have f7 := hl7.frozen 0)
      have hl8 := hl7.set 0 L
      have hr8 := (hr.hidSet hw7).setOther (a := ⟨W1.heap.size + 1, 0, none⟩) (.int .i64 (L : Nat)) (by simp)
      have hb7 := below_hidSet (Below.refl W1.heap.size W2) hw7 (Nat.le_refl _)
      have hb8 := hb7.setCell (p := ⟨W1.heap.size + 1, 0, none⟩) (by simp) (.int .i64 (L : Nat))
      exact ⟨((hk2.trans (keeps_setRow hr hw7)).trans (keeps_setCell hl7)).from _, hbw.trans hb8, by rw [HS.out]; exact hr8, by rw [HLn.out]; exact hl8, HL2.out, hB2.trans hb8⟩
  case done =>
    rintro D ys W hD rfl ⟨hr, hl, hle, hB⟩ hK
    have c7 := row_one hl
    have hgD : W1.heap.size + 1 + 1 ≤ D := by simpa using hD
    have HW := Lib.hid (Mk.ofL_W4 (nums_lt (lc [a, b, c, e] 256)))
    have hz := Lib.hid (info33' HW.out)
    have hz0 := Lib.hid (info33' Mk.W4.zero)
    have hlen := Lib.hid (zero_len HW.out)
    replace r0 := r0.below hB (by omega)
    by_cases hnn : (lc [a, b, c, e] 256).length = n
    · have HO := Lib.hid (show lowOut [a, b, c, e] n = (Mk.ofL (nums (lc [a, b, c, e] 256)), 0) by unfold lowOut; rw [if_pos (by omega), List.take_of_length_le (by omega)])
      rw [hnn, Nat.sub_self] at c7
      generalize Mk.ofL (nums (lc [a, b, c, e] 256)) = m at *
      clear hl hle hnn
      gi_wp2_with (first | (refine load_in rfl 27 _ rfl W1.heap.size .u64 m rfl 27 _ hr Tryd.underlying27 rfl hz.out ?_) | (refine store_in rfl 27 _ _ rfl (w.heap.size + 1) .u64 Mk.zero m rfl rfl 27 r0 hlen.out hz.out ?_; intro w7 hw7))
      rw [Exit.noGoto_ret]
      have hK7 : w7.heap[D]? = some (.deferred (some [])) := by rw [hw7.out, setRow_other _ _ _ _ (by omega)]; exact hK
      have hb7 := below_hidSet (hb0.trans (hB.mono hb0.size)) hw7 (by omega)
      refine ⟨by simp, .inl ⟨_, _, rfl, run_takeDeferred hK7, ?_⟩⟩
      exact ⟨_, results_row_tmp rfl _ _ (w.heap.size + 1) .u64 27 _ _ rfl (row_putObj (r0.hidSet hw7) (by omega) _) Tryd.underlying27 rfl hz.out, by rw [HO.out]; rfl, hb7.trans (belowK_b (w := w) (Nat.le_refl _) w7 D _ _ (by omega) hK7 rfl rfl)⟩
    · have HO := Lib.hid (show lowOut [a, b, c, e] n = (Mk.zero, 12) by unfold lowOut; rw [if_neg (by omega)])
      obtain ⟨L, hL, hL0⟩ : ∃ L, n - (lc [a, b, c, e] 256).length = L ∧ 0 < L := ⟨_, rfl, by omega⟩
      rw [hL] at c7
      have hpos : (0 : Int) < (L : Int) := by omega
      clear hL hL0 hl hle hnn
      gi_wp2_with (refine store_in rfl 27 _ _ rfl (w.heap.size + 1) .u64 Mk.zero Mk.zero rfl rfl 27 r0 rfl hz0.out ?_; intro w7 hw7)
      rw [Exit.noGoto_ret]
      have hK7 : w7.heap[D]? = some (.deferred (some [])) := by rw [hw7.out, setRow_other _ _ _ _ (by omega)]; exact hK
      have hb7 := below_hidSet (hb0.trans (hB.mono hb0.size)) hw7 (by omega)
      refine ⟨by simp, .inl ⟨_, _, rfl, run_takeDeferred hK7, ?_⟩⟩
      exact ⟨_, results_row_tmp rfl _ _ (w.heap.size + 1) .u64 27 _ _ rfl (row_putObj (r0.hidSet hw7) (by omega) _) Tryd.underlying27 rfl hz0.out, by rw [HO.out]; rfl, hb7.trans (belowK_b (w := w) (Nat.le_refl _) w7 D _ _ (by omega) hK7 rfl rfl)⟩
  case stop =>
    rintro D cc pre W hD ⟨k, hk, rfl⟩ ⟨hr, hl, ⟨rfl, hne, hlen1⟩, hB⟩ hK
    have c7 := row_one hl
    have hgD : W1.heap.size + 1 + 1 ≤ D := by simpa using hD
    have HW := Lib.hid (Mk.ofL_W4 (nums_lt (lc [a, b, c, e] k).dropLast))
    have hz := Lib.hid (info33' HW.out)
    have hlen := Lib.hid (zero_len HW.out)
    replace r0 := r0.below hB (by omega)
    have HO := Lib.hid (show lowOut [a, b, c, e] n = (Mk.ofL (nums (lc [a, b, c, e] k).dropLast), 0) by
      have hp : (lc [a, b, c, e] k).dropLast <+: lc [a, b, c, e] 256 := (List.dropLast_prefix _).trans (lc_prefix _ hk)
      unfold lowOut
      rw [if_pos (by rw [← hlen1]; exact hp.length_le), ← hlen1, ← List.prefix_iff_eq_take.1 hp])
    generalize Mk.ofL (nums (lc [a, b, c, e] k).dropLast) = m at *
    clear hl hlen1 hne
    gi_wp2_with (first | (refine load_in rfl 27 _ rfl W1.heap.size .u64 m rfl 27 _ hr Tryd.underlying27 rfl hz.out ?_) | (refine store_in rfl 27 _ _ rfl (w.heap.size + 1) .u64 Mk.zero m rfl rfl 27 r0 hlen.out hz.out ?_; intro w7 hw7))
    rw [Exit.noGoto_ret]
    have hK7 : w7.heap[D]? = some (.deferred (some [])) := by rw [hw7.out, setRow_other _ _ _ _ (by omega)]; exact hK
    have hb7 := below_hidSet (hb0.trans (hB.mono hb0.size)) hw7 (by omega)
    refine ⟨by simp, .inl ⟨_, _, rfl, run_takeDeferred hK7, ?_⟩⟩
    exact ⟨_, results_row_tmp rfl _ _ (w.heap.size + 1) .u64 27 _ _ rfl (row_putObj (r0.hidSet hw7) (by omega) _) Tryd.underlying27 rfl hz.out, by rw [HO.out]; rfl, hb7.trans (belowK_b (w := w) (Nat.le_refl _) w7 D _ _ (by omega) hK7 rfl rfl)⟩
end Go.Proofs.YthmlibapjhmdbaaDoor
