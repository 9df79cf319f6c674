/- Order of what may not be; firstFree. -/
import Derived.Test.YthmlibapjhmdbaaGW6xW7xW8
namespace Go.Proofs.Ythmlibapjhmdbaa
open Go.RowKit Go.Shelf

attribute [local go_sem] Oper.semAt_some run_store_fn run_store_nilfn

/-- The free ones. -/
def fr (free : List Nat) (l : List Core) : List Core := l.filter fun x => Mk.hasB free x.1
theorem fr_hit {free : List Nat} (pre : List Core) {x : Core} (h : Mk.hasB free x.1 = true) : fr free (pre ++ [x]) = fr free pre ++ [x] := by simp [fr, h]
theorem fr_miss {free : List Nat} (pre : List Core) {x : Core} (h : Mk.hasB free x.1 = false) : fr free (pre ++ [x]) = fr free pre := by simp [fr, h]
theorem fr_len (free : List Nat) (pre : List Core) : (fr free pre).length ≤ pre.length := List.length_filter_le _ _
theorem upto_prefix (f : Nat → Nat) {k n : Nat} (h : k ≤ n) : upto f k <+: upto f n := by
  unfold upto
  obtain ⟨m, rfl⟩ := Nat.exists_eq_add_of_le h
  rw [List.range_add, List.map_append]
  exact List.prefix_append _ _
theorem fr_take {free : List Nat} {pre all : List Core} {x : Core} {n : Nat} (h : pre ++ [x] <+: all) (hl : (fr free pre).length = n) : (fr free all).take n = fr free pre := by
  obtain ⟨t, rfl⟩ := h
  rw [List.append_assoc]
  unfold fr at *
  rw [List.filter_append, List.take_append, hl, Nat.sub_self, List.take_zero, List.append_nil, List.take_of_length_le (by omega)]

theorem own_form {w : World} {base size n : Nat} {e : TypeId} {v : Value} {xs : List Value} (h : w.ownsRow base e size v n xs) : ∃ A cap, v = .slice A n cap := by
  rcases Joins.ownsRow_forms h with ⟨rfl, rfl⟩ | ⟨g, cap, rfl⟩
  · exact ⟨none, 0, rfl⟩
  · exact ⟨_, cap, rfl⟩
theorem own_next {w w' : World} {base size n : Nat} {e : TypeId} {v : Value} {xs : List Value} (h : w.ownsRow base e size v n xs) (hb : Below w.heap.size w w') : w'.ownsRow base e size v n xs := by
  refine ⟨h.1, ?_⟩
  rcases h.2 with h0 | ⟨g, cap, cur, h1, h2, h3, h4⟩
  · exact .inl h0
  · exact .inr ⟨g, cap, cur, h1, h2, (hb.block g (Array.getElem?_eq_some_iff.1 h3).1).trans h3, h4⟩
theorem boxed_next {w w' : World} {B : Nat} {t : TypeId} {v : Value} (h : Boxed w B t v) (hb : Below w.heap.size w w') : Boxed w' B t v := (hb.block B h.lt).trans h
theorem keeps_next {w w' : World} (hb : Below w.heap.size w w') : KeepsOthers w w' := KeepsOthers.of_grownBy (only_of_below hb) (fun j o ej hj => by cases ej)

/-- A slice of its own that holds these cores, alone. -/
def Gives1 (w : World) (zs : List Core) (e : Ending) (w' : World) : Prop :=
  ∃ v, e = .returned v ∧ w'.ownsRow w.heap.size 3 1 v zs.length (cv zs) ∧ Below w.heap.size w w'

set_option maxRecDepth 100000 in
set_option maxHeartbeats 2000000 in
theorem free_ok {d : Int} {fid s p g : Nat} {of : Nat → Nat} (hd : IsDist d fid s p of) (a b c e n : Nat) (w : World) (h : LOk s p) (hw : Mk.W4 [a, b, c, e]) (hn : n ≤ 8192) (kg : Bk w g 28 #[.int .i64 s, .int .i64 p]) :
    Calls Try.prog 60 #[.agg #[.func (.func fid) #[] #[.pointer (some ⟨g, 0, none⟩)]], .agg #[.int .u64 a, .int .u64 b, .int .u64 c, .int .u64 e], .int .i64 n] w (Gives1 w ((fr [a, b, c, e] (upto of (s * p))).take n)) := by
  have H := Lib.hid h
  have HD := Lib.hid hd
  have HW := Lib.hid hw
  have h5 := h.2.2.2.2
  clear h hd hw
  obtain ⟨i0, hi, hz0, hz1, hz2⟩ := info_parts info3
  refine (callsIn_wide (n := 5)).1 ?_
  refine callsIn_of_wp_marks Try.func60 rfl trivial ?_ rfl
  simp only [Try.ntmps60, List.size_toArray, List.length_cons, List.length_nil, Nat.reduceAdd, Nat.reduceSub, Array.replicate_succ, Array.replicate_zero, List.push_toArray, List.append_toArray, List.nil_append, List.cons_append]
  gi_wp2_with fail
  have hgl := kg.lt
  have hsz : (((w.alloc (.cells #[.func (.func fid) #[] #[.pointer (some ⟨g, 0, none⟩)]] 100)).alloc (.cells #[.int .u64 a, .int .u64 b, .int .u64 c, .int .u64 e] 40)).alloc (.cells #[.int .i64 n] 3)).heap.size = w.heap.size + 1 + 1 + 1 := by simp
  have k1 : Bk (((w.alloc (.cells #[.func (.func fid) #[] #[.pointer (some ⟨g, 0, none⟩)]] 100)).alloc (.cells #[.int .u64 a, .int .u64 b, .int .u64 c, .int .u64 e] 40)).alloc (.cells #[.int .i64 n] 3)) (w.heap.size + 1) 40 #[.int .u64 a, .int .u64 b, .int .u64 c, .int .u64 e] := by
    have := (Bk.new (w.alloc (.cells #[.func (.func fid) #[] #[.pointer (some ⟨g, 0, none⟩)]] 100)) 40 #[.int .u64 a, .int .u64 b, .int .u64 c, .int .u64 e]).alloc (.cells #[.int .i64 n] 3)
    rw [size_alloc] at this
    exact this
  have k2 : Bk (((w.alloc (.cells #[.func (.func fid) #[] #[.pointer (some ⟨g, 0, none⟩)]] 100)).alloc (.cells #[.int .u64 a, .int .u64 b, .int .u64 c, .int .u64 e] 40)).alloc (.cells #[.int .i64 n] 3)) (w.heap.size + 1 + 1) 3 #[.int .i64 n] := by
    have := Bk.new ((w.alloc (.cells #[.func (.func fid) #[] #[.pointer (some ⟨g, 0, none⟩)]] 100)).alloc (.cells #[.int .u64 a, .int .u64 b, .int .u64 c, .int .u64 e] 40)) 3 #[.int .i64 n]
    rw [size_alloc, size_alloc] at this
    exact this
  have kg1 := ((kg.alloc (.cells #[.func (.func fid) #[] #[.pointer (some ⟨g, 0, none⟩)]] 100)).alloc (.cells #[.int .u64 a, .int .u64 b, .int .u64 c, .int .u64 e] 40)).alloc (.cells #[.int .i64 n] 3)
  have hb0 := (((Below.refl _ w).alloc (Nat.le_refl _) (.cells #[.func (.func fid) #[] #[.pointer (some ⟨g, 0, none⟩)]] 100)).alloc (by simp) (.cells #[.int .u64 a, .int .u64 b, .int .u64 c, .int .u64 e] 40)).alloc (by simp; omega) (.cells #[.int .i64 n] 3)
  generalize ((w.alloc (.cells #[.func (.func fid) #[] #[.pointer (some ⟨g, 0, none⟩)]] 100)).alloc (.cells #[.int .u64 a, .int .u64 b, .int .u64 c, .int .u64 e] 40)).alloc (.cells #[.int .i64 n] 3) = W1 at *
  rw [← hsz]
  have hg1 : g < W1.heap.size := by omega
  have hx1 : w.heap.size + 1 < W1.heap.size := by omega
  have hx2 : w.heap.size + 1 + 1 < W1.heap.size := by omega
  clear hsz kg
  have bO := Boxed.new W1 44 (.slice none 0 0)
  have hB0 : Below W1.heap.size W1 (W1.alloc (.cells #[.slice none 0 0] 44)) := (Below.refl _ W1).alloc (Nat.le_refl _) _
  refine wpIn_rangeFunc_ownG rfl (by omega) (gf := fid) (lb := #[.pointer (some ⟨g, 0, none⟩)]) rfl trivial (dist_enters HD.out)
    (dist_stops HD.out 4 g W1.heap.size (by omega) H.out _ hg1 (by simp) (kg1.alloc _)) belowK_t (belowK_b (by simp)) (Below.refl _ _) (fun _ => rfl)
    (fun pre W => (∃ v, Boxed W W1.heap.size 44 v ∧ W.ownsRow W1.heap.size 3 1 v (fr [a, b, c, e] pre).length (cv (fr [a, b, c, e] pre)) ∧ (fr [a, b, c, e] pre).length ≤ n) ∧ Below W1.heap.size W1 W)
    (fun cc pre W => (∃ v, Boxed W W1.heap.size 44 v ∧ W.ownsRow W1.heap.size 3 1 v (fr [a, b, c, e] pre.dropLast).length (cv (fr [a, b, c, e] pre.dropLast)) ∧ (cc = .exit 0 ∧ pre ≠ [] ∧ (fr [a, b, c, e] pre.dropLast).length = n)) ∧ Below W1.heap.size W1 W)
    (OwnFrom.and (Own.from (holdsRow_own W1.heap.size W1.heap.size 44 3 1 (fun pre : List Core => (fr [a, b, c, e] pre).length) (fun pre => cv (fr [a, b, c, e] pre)) (fun pre _ => (fr [a, b, c, e] pre).length ≤ n)) _) (ownFrom_below (Nat.le_refl _) (by simp)))
    (fun cc => OwnFrom.and (Own.from (holdsRow_own W1.heap.size W1.heap.size 44 3 1 (fun pre : List Core => (fr [a, b, c, e] pre.dropLast).length) (fun pre => cv (fr [a, b, c, e] pre.dropLast)) (fun pre _ => cc = .exit 0 ∧ pre ≠ [] ∧ (fr [a, b, c, e] pre.dropLast).length = n)) _) (ownFrom_below (Nat.le_refl _) (by simp)))
    ⟨⟨_, bO, World.ownsRow_nil _ _ _ _, Nat.zero_le _⟩, hB0⟩
    ?a1 ?assign ?body ?done ?stop
  case assign =>
    intro l x W K hK
    gi_wp2
    exact hK
  case body =>
    rintro l pre x W ⟨⟨v, hv, hrow, hle⟩, hB⟩ hlt
    obtain ⟨A, cap, rfl⟩ := own_form hrow
    have hfl := fr_len [a, b, c, e] pre
    have hc := hv.cell
    have hcn := (k2.below hB hx2).cell 0 _ rfl
    by_cases hnn : (fr [a, b, c, e] pre).length = n
    · have HN := Lib.hid hnn
      clear hnn
      have hbq : (((fr [a, b, c, e] pre).length : Int) == (n : Int)) = true := by rw [HN.out]; simp
      have hbq2 : ((fr [a, b, c, e] pre).length == n) = true := by rw [HN.out]; simp
      gi_wp2
      exact ⟨KeepsFrom.refl _ _, ⟨_, hv, by rw [List.dropLast_concat]; exact hrow, rfl, by simp, by rw [List.dropLast_concat]; exact HN.out⟩, hB⟩
    · have HN := Lib.hid hnn
      have hlt2 : (fr [a, b, c, e] pre).length < n := by omega
      have hbq : (((fr [a, b, c, e] pre).length : Int) == (n : Int)) = false := by simp; omega
      have hbq2 : ((fr [a, b, c, e] pre).length == n) = false := by simp; omega
      clear hnn
      have q0 := (k1.below hB hx1).cell 0 _ rfl
      have q1 := (k1.below hB hx1).cell 1 _ rfl
      have q2 := (k1.below hB hx1).cell 2 _ rfl
      have q3 := (k1.below hB hx1).cell 3 _ rfl
      have hd3 : 1 ≤ 3 := by omega
      gi_wp2_with fail
      refine ⟨trivial, (CallsIn.inRound l (callsIn_wide.2 (has_in [a, b, c, e] x.1 _ HW.out x.2))).mono ?_⟩
      rintro e2 W2 ⟨rfl, hb2⟩
      clear q0 q1 q2 q3 hc hcn hbq hbq2
      have hv2 := boxed_next hv hb2
      have hrow2 := own_next hrow hb2
      have hkw := keeps_next hb2
      have hsW := hB.size
      have hbw := hb2.mono hB.size
      have hBW := hB.trans hbw
      have hc2 := hv2.cell
      by_cases hh : Mk.hasB [a, b, c, e] x.1 = true
      · have HH := Lib.hid hh
        rw [HH.out]
        clear hh
        gi_wp2_with (gi_at_builtin; refine wpListIn_append_own _ rfl _ _ 44 rfl W1.heap.size 3 i0 (.int .i64 0) 1 8 Try.underlying44 hi hz0 hz1 hz2 rfl (by decide) _ _ _ rfl (hrow2.alloc _) ⟨W2.heap.size, 0, none⟩ 1 1 [.int .i64 (x.1 : Nat)] rfl rfl (cell_one_new _ _ _) (by simp [Value.oneCell']) (by unfold maxLen; omega) (by omega) (by have := hBW.size; simp; omega) ?_; intro v' w1 hown' hgrow _; obtain ⟨g', cap', rfl⟩ := ownsRow_succ hown'; obtain ⟨hv3, hv4, hr4, hk4, hb4⟩ := hv2.appended (by decide) hrow2 hBW.size (Nat.le_refl _) hown' hgrow; have hc3 := hv3.cell; have hf3 := hv3.frozen)
        exact ⟨(hkw.trans hk4).from _, hbw.trans hb4, ⟨_, hv4, by rw [fr_hit pre HH.out, cv_snoc, List.length_append]; exact hr4, by rw [fr_hit pre HH.out, List.length_append]; exact hlt2⟩, hBW.trans hb4⟩
      · have HH := Lib.hid (show Mk.hasB [a, b, c, e] x.1 = false by simpa using hh)
        rw [HH.out]
        clear hh
        gi_wp2
        exact ⟨hkw.from _, hbw, ⟨_, hv2, by rw [fr_miss pre HH.out]; exact hrow2, by rw [fr_miss pre HH.out]; exact hle⟩, hBW⟩
  case done =>
    rintro D ys W hD rfl ⟨⟨v, hv, hrow, hle⟩, hB⟩ hK
    have hc := hv.cell
    gi_wp2
    refine ⟨by simp, .inl ⟨_, _, rfl, run_takeDeferred hK, ?_⟩⟩
    refine ⟨_, results_tmp rfl _ _ _, v, rfl, ?_, (hb0.trans (hB.mono hb0.size)).trans (belowK_b (w := w) (Nat.le_refl _) W D _ _ (by have := hb0.size; simp at hD; omega) hK rfl rfl)⟩
    rw [List.take_of_length_le hle]
    exact Joins.ownsRow_le (ownsRow_putObj hrow _ hK rfl) hb0.size
  case stop =>
    rintro D cc pre W hD ⟨k, hk, rfl⟩ ⟨⟨v, hv, hrow, rfl, hne, hl⟩, hB⟩ hK
    have hc := hv.cell
    gi_wp2
    refine ⟨by simp, .inl ⟨_, _, rfl, run_takeDeferred hK, ?_⟩⟩
    refine ⟨_, results_tmp rfl _ _ _, v, rfl, ?_, (hb0.trans (hB.mono hb0.size)).trans (belowK_b (w := w) (Nat.le_refl _) W D _ _ (by have := hb0.size; simp at hD; omega) hK rfl rfl)⟩
    have ht : (fr [a, b, c, e] (upto of (s * p))).take n = fr [a, b, c, e] (upto of k).dropLast := by
      refine fr_take (x := (upto of k).getLast hne) ?_ hl
      rw [List.dropLast_concat_getLast hne]
      exact upto_prefix of hk
    rw [ht]
    exact Joins.ownsRow_le (ownsRow_putObj hrow _ hK rfl) hb0.size
end Go.Proofs.Ythmlibapjhmdbaa
/- Slices of masks in memory; a slice of cores that is cut. -/
namespace Go.Proofs.Ythmlibapjhmdbaa
open Go.RowKit Go.Shelf

/-- All of them have four words. -/
def All4 (ms : List (List Nat)) : Prop := ∀ m ∈ ms, m.length = 4
theorem flat_len : ∀ {ms : List (List Nat)}, All4 ms → ms.flatten.length = ms.length * 4
  | [], _ => rfl
  | m :: ms, h => by
    rw [List.flatten_cons, List.length_append, flat_len (ms := ms) (fun x hx => h x (by simp [hx])), h m (by simp), List.length_cons]; omega
theorem flat_nth : ∀ {ms : List (List Nat)}, All4 ms → ∀ {i : Nat}, i < ms.length → ∀ {j : Nat}, j < 4 → Mk.nth ms.flatten (i * 4 + j) = Mk.nth (ms.getD i []) j
  | m :: ms, h, 0, _, j, hj => by
    have hm := h m (by simp)
    rw [List.flatten_cons, Mk.nth_getElem?, Nat.zero_mul, Nat.zero_add, List.getElem?_append_left (by omega)]
    simp [Mk.nth_getElem?]
  | m :: ms, h, i + 1, hi, j, hj => by
    have hm := h m (by simp)
    have := flat_nth (ms := ms) (fun x hx => h x (by simp [hx])) (i := i) (by simpa using hi) hj
    rw [List.flatten_cons, Mk.nth_getElem?, List.getElem?_append_right (by omega), hm, show (i + 1) * 4 + j - 4 = i * 4 + j by omega, ← Mk.nth_getElem?, this]
    simp
theorem flat_set : ∀ {ms : List (List Nat)}, All4 ms → ∀ {i : Nat}, i < ms.length → ∀ (a b c d : Nat),
    (((ms.flatten.set (i * 4) a).set (i * 4 + 1) b).set (i * 4 + 2) c).set (i * 4 + 3) d = (ms.set i [a, b, c, d]).flatten
  | m :: ms, h, 0, _, a, b, c, d => by
    have hm := h m (by simp)
    match m, hm with
    | [_, _, _, _], _ => simp
  | m :: ms, h, i + 1, hi, a, b, c, d => by
    have hm := h m (by simp)
    have := flat_set (ms := ms) (fun x hx => h x (by simp [hx])) (i := i) (by simpa using hi) a b c d
    rw [List.flatten_cons, List.set_append_right _ _ (by omega), List.set_append_right _ _ (by omega), List.set_append_right _ _ (by omega), List.set_append_right _ _ (by omega), hm,
      show (i + 1) * 4 - 4 = i * 4 by omega, show (i + 1) * 4 + 1 - 4 = i * 4 + 1 by omega, show (i + 1) * 4 + 2 - 4 = i * 4 + 2 by omega, show (i + 1) * 4 + 3 - 4 = i * 4 + 3 by omega, this]
    simp
theorem flat_zeros (n : Nat) : (List.replicate n Mk.zero).flatten = List.replicate (n * 4) 0 := by
  induction n with
  | zero => rfl
  | succ n ih => rw [List.replicate_succ, List.flatten_cons, ih, show (n + 1) * 4 = 4 + n * 4 by omega, ← List.replicate_append_replicate]; rfl
theorem All4.set {ms : List (List Nat)} (h : All4 ms) (i a b c d : Nat) : All4 (ms.set i [a, b, c, d]) := by
  intro m hm
  rcases List.mem_or_eq_of_mem_set hm with hm | rfl
  · exact h m hm
  · rfl
theorem All4.zeros (n : Nat) : All4 (List.replicate n Mk.zero) := by
  intro m hm
  obtain ⟨_, rfl⟩ := List.mem_replicate.1 hm
  rfl

theorem made4 (n : Nat) : madeCells #[Value.int .u64 0, Value.int .u64 0, Value.int .u64 0, Value.int .u64 0] (n * 4) = vs .u64 (List.replicate (n * 4) 0) := by
  apply Array.ext_getElem?
  intro i
  by_cases h : i < n * 4
  · rw [vs_get .u64 _ i (by simpa using h), Mk.nth_replicate]
    have h4 : i % 4 < 4 := Nat.mod_lt _ (by decide)
    simp [madeCells, h]
    generalize i % 4 = j at h4 ⊢
    match j, h4 with
    | 0, _ | 1, _ | 2, _ | 3, _ => rfl
  · rw [Array.getElem?_eq_none (by simp [madeCells]; omega), Array.getElem?_eq_none (by simp [vs]; omega)]

theorem infoM : (Try.prog.info? 40).map (fun i => (i.zero, i.size, i.bytes)) = some (some (.agg #[.int .u64 0, .int .u64 0, .int .u64 0, .int .u64 0]), 4, 32) := by kernel_rfl
/-- make([]Mask, n): a block of zeros. -/
theorem make4 {P : Program} {w : World} {ops : Array Oper} {rest : List Oper} {o : Oper} {a : Act} {Q : Exit → Act → World → Prop}
    (hg : o.guard = none) (x y : Operand) (t : TypeId) (hop : o.op = Op.makeSlice t x y) (e : TypeId) (h1 : P.underlying t = some (.slice e))
    (h2 : (P.info? e).map (fun i => (i.zero, i.size, i.bytes)) = some (some (.agg #[.int .u64 0, .int .u64 0, .int .u64 0, .int .u64 0]), 4, 32)) (kl kc : IntKind) (n : Nat) (hl : a.eval x = .int kl (n : Int)) (hc : a.eval y = .int kc (n : Int)) (hn : n ≤ 65536)
    (h : ∀ w', Hid (w' = w.alloc (.cells (vs .u64 (List.replicate n Mk.zero).flatten) e)) → wpList P ops Q rest (a.put o.dst (.slice (some ⟨w.heap.size, 0, none⟩) n n)) w') : wpList P ops Q (o :: rest) a w := by
  refine wpList_plain hg fun K hK' => ?_
  obtain ⟨i, hi, hz0, hz1, hz2⟩ := info_parts h2
  have hrun := run_make (P := P) w t e i _ h1 hi hz0 kl kc (n : Int) (n : Int) (by omega) (by omega) (by rw [hz2]; omega) (by omega)
  simp only [Int.toNat_natCast, hz1, Value.cells, made4] at hrun
  rw [← flat_zeros] at hrun
  unfold Oper.wp
  simp [execOp, hop, hl, hc, hrun, Result.andThen]
  exact hK' _ _ (h _ rfl)

theorem cv_get (l : List Core) (j : Nat) (h : j < l.length) : (cv l)[j]? = some (.int .i64 (Mk.nth (l.map (·.1)) j : Nat)) := by
  simp [cv, Mk.nth_getElem?, h]
/-- A part of a slice of its own. -/
theorem nats_of_own {w : World} {base : Nat} {zs : List Core} {g cap : Nat} (h : w.ownsRow base 3 1 (.slice (some ⟨g, 0, none⟩) zs.length cap) zs.length (cv zs)) (lo q : Nat) (hq : lo + q ≤ zs.length) :
    NatsAt w w.heap.size (some ⟨g, lo, none⟩) (((zs.map (·.1)).drop lo).take q) := by
  rcases h.2 with ⟨h0, _⟩ | ⟨g', cap', cur, h1, h2, h3, h4, h5, h6, h7⟩
  · cases h0
  · cases h1
    refine .inr ⟨_, rfl, (Array.getElem?_eq_some_iff.1 h3).1, fun j hj => ?_⟩
    have hj2 : j < q := by simp at hj; omega
    have hadd : (⟨g, lo, none⟩ : Addr).add j = ⟨g, lo + j, none⟩ := by unfold Addr.add; split <;> simp_all
    rw [hadd, cell_of_row w g (lo + j) cur 3 (0, 0) h3]
    have e1 : cur[lo + j]? = (cv zs)[lo + j]? := by
      rw [← h7, List.getElem?_take, if_pos (by omega)]; simp
    rw [e1, cv_get zs (lo + j) (by omega)]
    congr 3
    rw [Mk.nth_getElem?, Mk.nth_getElem?, List.getElem?_take, if_pos hj2, List.getElem?_drop]
theorem nats_whole {w : World} {base : Nat} {zs : List Core} {A : Option Addr} {cap : Nat} (h : w.ownsRow base 3 1 (.slice A zs.length cap) zs.length (cv zs)) :
    NatsAt w w.heap.size A (zs.map (·.1)) := by
  rcases h.2 with ⟨h0, h1⟩ | ⟨g', cap', cur, h1, h2, h3, h4, h5, h6, h7⟩
  · exact .inl (by have : zs = [] := List.length_eq_zero_iff.1 h1
                   simp [this])
  · cases h1
    have := nats_of_own h 0 zs.length (by omega)
    rw [List.drop_zero, List.take_of_length_le (by simp)] at this
    exact this
end Go.Proofs.Ythmlibapjhmdbaa
/- Assign. -/
namespace Go.Proofs.Ythmlibapjhmdbaa
open Go.RowKit Go.Shelf

attribute [local go_sem] run_store_fn run_store_nilfn

set_option maxRecDepth 100000 in
set_option maxHeartbeats 1000000 in
theorem assign_no (s p d r q : Int) (a b c e : Nat) (w : World) (hd : ∀ W, Calls Try.prog 59 #[.agg #[.int .i64 s, .int .i64 p], .int .i64 d] W fun e w' => e = .returned (.tuple #[.agg #[.nilFunc], .int .i64 1]) ∧ Below W.heap.size W w') :
    Calls Try.prog 46 #[.agg #[.int .i64 s, .int .i64 p], .agg #[.int .u64 a, .int .u64 b, .int .u64 c, .int .u64 e, .int .i64 r, .int .i64 q, .int .i64 d]] w fun e w' => e = .returned (.tuple #[.slice none 0 0, .int .i64 1]) ∧ Below w.heap.size w w' := by
  have HD := Lib.hid hd
  clear hd
  have hb0 := ((Below.refl _ w).alloc (Nat.le_refl _) (.cells #[.int .i64 s, .int .i64 p] 28)).alloc (by simp) (.cells #[.int .u64 a, .int .u64 b, .int .u64 c, .int .u64 e, .int .i64 r, .int .i64 q, .int .i64 d] 61)
  go_enter Try.func46, Try.ntmps46
  go_wp2_with fail
  refine (HD.out _).mono ?_
  rintro e w2 ⟨rfl, hb2⟩
  replace hb0 := bmore hb0 hb2
  clear hb2
  go_wp2_with fail
  go_ret2
  exact ⟨rfl, hb0.alloc hb0.size _⟩

/-- Numbers that may be wished. -/
def ROk (r q : Nat) : Prop := 1 ≤ r ∧ r ≤ 32 ∧ 1 ≤ q ∧ q ≤ 256
def RBad (r q : Int) : Prop := (r < 1 ∨ 32 < r) ∨ (q < 1 ∨ 256 < q)
theorem ROk_or (r q : Int) : (∃ a b : Nat, r = a ∧ q = b ∧ ROk a b) ∨ RBad r q := by
  by_cases h : RBad r q
  · exact .inr h
  · left
    unfold RBad at h
    obtain ⟨a, rfl⟩ := Int.eq_ofNat_of_zero_le (show 0 ≤ r by omega)
    obtain ⟨b, rfl⟩ := Int.eq_ofNat_of_zero_le (show 0 ≤ q by omega)
    exact ⟨a, b, rfl, rfl, by omega, by omega, by omega, by omega⟩

set_option maxRecDepth 100000 in
set_option maxHeartbeats 1000000 in
theorem assign_arg {d : Int} {fid s p : Nat} {of : Nat → Nat} (hd : IsDist d fid s p of) (r q : Int) (a b c e : Nat) (w : World) (h : LOk s p) (hr : RBad r q) :
    Calls Try.prog 46 #[.agg #[.int .i64 s, .int .i64 p], .agg #[.int .u64 a, .int .u64 b, .int .u64 c, .int .u64 e, .int .i64 r, .int .i64 q, .int .i64 d]] w fun e w' => e = .returned (.tuple #[.slice none 0 0, .int .i64 1]) ∧ Below w.heap.size w w' := by
  have HD := Lib.hid hd
  have H := Lib.hid h
  have HR := Lib.hid hr
  clear hd h hr
  have hb0 := ((Below.refl _ w).alloc (Nat.le_refl _) (.cells #[.int .i64 s, .int .i64 p] 28)).alloc (by simp) (.cells #[.int .u64 a, .int .u64 b, .int .u64 c, .int .u64 e, .int .i64 r, .int .i64 q, .int .i64 d] 61)
  have k1 : Bk ((w.alloc (.cells #[.int .i64 s, .int .i64 p] 28)).alloc (.cells #[.int .u64 a, .int .u64 b, .int .u64 c, .int .u64 e, .int .i64 r, .int .i64 q, .int .i64 d] 61)) (w.heap.size + 1) 61 #[.int .u64 a, .int .u64 b, .int .u64 c, .int .u64 e, .int .i64 r, .int .i64 q, .int .i64 d] := by
    have := Bk.new (w.alloc (.cells #[.int .i64 s, .int .i64 p] 28)) 61 #[.int .u64 a, .int .u64 b, .int .u64 c, .int .u64 e, .int .i64 r, .int .i64 q, .int .i64 d]
    rw [size_alloc] at this
    exact this
  go_enter Try.func46, Try.ntmps46
  go_wp2_with fail
  refine (dist_any HD.out _ H.out).mono ?_
  rintro e2 w2 ⟨g, rfl, kg, hb2⟩
  replace hb0 := bmore hb0 hb2
  replace k1 := k1.next hb2
  clear hb2 kg
  have c4 := (k1.alloc (.cells #[.func (.func fid) #[] #[.pointer (some ⟨g, 0, none⟩)]] 100)).cell 4 _ rfl
  have c5 := (k1.alloc (.cells #[.func (.func fid) #[] #[.pointer (some ⟨g, 0, none⟩)]] 100)).cell 5 _ rfl
  replace hb0 := hb0.alloc hb0.size (.cells #[.func (.func fid) #[] #[.pointer (some ⟨g, 0, none⟩)]] 100)
  go_wp2_with fail
  by_cases h1 : r < 1 ∨ 32 < r
  · refine (within_no _ _ _ h1).mono ?_
    rintro e w' ⟨rfl, rfl⟩
    go_wp2_with fail
    go_ret2
    exact ⟨rfl, hb0⟩
  · have h2 : q < 1 ∨ 256 < q := by have := HR.out; unfold RBad at this; omega
    refine (within_yes _ _ _ (by omega) (by omega)).mono ?_
    rintro e w' ⟨rfl, rfl⟩
    clear h1
    go_wp2_with fail
    refine (within_no _ _ _ h2).mono ?_
    rintro e w' ⟨rfl, rfl⟩
    go_wp2_with fail
    go_ret2
    exact ⟨rfl, hb0⟩
end Go.Proofs.Ythmlibapjhmdbaa
