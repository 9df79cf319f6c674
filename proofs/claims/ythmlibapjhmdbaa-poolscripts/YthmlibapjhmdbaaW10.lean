/- Slices of masks in memory; a slice of cores that is cut. -/
import Derived.Test.YthmlibapjhmdbaaW9
namespace Go.Proofs.Ythmlibapjhmdbaa
open Go.RowKit Go.Shelf

/-- All of them have four words. -/
def All4 (ms : List (List Nat)) : Prop := ∀ m ∈ ms, m.length = 4
theorem flat_len : ∀ {ms : List (List Nat)}, All4 ms → ms.flatten.length = ms.length * 4
  | [], _ => rfl
  | m :: ms, h => by
    rw [List.flatten_cons, List.length_append, flat_len (ms := ms) (fun x hx => h x (by simp [hx])), h m (by simp), List.length_cons]; omega
theorem flat_nth : ∀ {ms : List (List Nat)}, All4 ms → ∀ {i : Nat}, i < ms.length → ∀ {j : Nat}, j < 4 → Mk.nth ms.flatten (i * 4 + j) = Mk.nth (ms.getD i []) j
  | m :: ms, h, 0, _, j, hj => by
    have hm := h m (by simp)
    rw [List.flatten_cons, Mk.nth_getElem?, Nat.zero_mul, Nat.zero_add, List.getElem?_append_left (by omega)]
    simp [Mk.nth_getElem?]
  | m :: ms, h, i + 1, hi, j, hj => by
    have hm := h m (by simp)
    have := flat_nth (ms := ms) (fun x hx => h x (by simp [hx])) (i := i) (by simpa using hi) hj
    rw [List.flatten_cons, Mk.nth_getElem?, List.getElem?_append_right (by omega), hm, show (i + 1) * 4 + j - 4 = i * 4 + j by omega, ← Mk.nth_getElem?, this]
    simp
theorem flat_set : ∀ {ms : List (List Nat)}, All4 ms → ∀ {i : Nat}, i < ms.length → ∀ (a b c d : Nat),
    (((ms.flatten.set (i * 4) a).set (i * 4 + 1) b).set (i * 4 + 2) c).set (i * 4 + 3) d = (ms.set i [a, b, c, d]).flatten
  | m :: ms, h, 0, _, a, b, c, d => by
    have hm := h m (by simp)
    match m, hm with
    | [_, _, _, _], _ => simp
  | m :: ms, h, i + 1, hi, a, b, c, d => by
    have hm := h m (by simp)
    have := flat_set (ms := ms) (fun x hx => h x (by simp [hx])) (i := i) (by simpa using hi) a b c d
    rw [List.flatten_cons, List.set_append_right _ _ (by omega), List.set_append_right _ _ (by omega), List.set_append_right _ _ (by omega), List.set_append_right _ _ (by omega), hm,
      show (i + 1) * 4 - 4 = i * 4 by omega, show (i + 1) * 4 + 1 - 4 = i * 4 + 1 by omega, show (i + 1) * 4 + 2 - 4 = i * 4 + 2 by omega, show (i + 1) * 4 + 3 - 4 = i * 4 + 3 by omega, this]
    simp
theorem flat_zeros (n : Nat) : (List.replicate n Mk.zero).flatten = List.replicate (n * 4) 0 := by
  induction n with
  | zero => rfl
  | succ n ih => rw [List.replicate_succ, List.flatten_cons, ih, show (n + 1) * 4 = 4 + n * 4 by omega, ← List.replicate_append_replicate]; rfl
theorem All4.set {ms : List (List Nat)} (h : All4 ms) (i a b c d : Nat) : All4 (ms.set i [a, b, c, d]) := by
  intro m hm
  rcases List.mem_or_eq_of_mem_set hm with hm | rfl
  · exact h m hm
  · rfl
theorem All4.zeros (n : Nat) : All4 (List.replicate n Mk.zero) := by
  intro m hm
  obtain ⟨_, rfl⟩ := List.mem_replicate.1 hm
  rfl

theorem made4 (n : Nat) : madeCells #[Value.int .u64 0, Value.int .u64 0, Value.int .u64 0, Value.int .u64 0] (n * 4) = vs .u64 (List.replicate (n * 4) 0) := by
  apply Array.ext_getElem?
  intro i
  by_cases h : i < n * 4
  · rw [vs_get .u64 _ i (by simpa using h), Mk.nth_replicate]
    have h4 : i % 4 < 4 := Nat.mod_lt _ (by decide)
    simp [madeCells, h]
    generalize i % 4 = j at h4 ⊢
    match j, h4 with
    | 0, _ | 1, _ | 2, _ | 3, _ => rfl
  · rw [Array.getElem?_eq_none (by simp [madeCells]; omega), Array.getElem?_eq_none (by simp [vs]; omega)]

theorem infoM : (Try.prog.info? 40).map (fun i => (i.zero, i.size, i.bytes)) = some (some (.agg #[.int .u64 0, .int .u64 0, .int .u64 0, .int .u64 0]), 4, 32) := by kernel_rfl
/-- make([]Mask, n): a block of zeros. -/
theorem make4 {P : Program} {w : World} {ops : Array Oper} {rest : List Oper} {o : Oper} {a : Act} {Q : Exit → Act → World → Prop}
    (hg : o.guard = none) (x y : Operand) (t : TypeId) (hop : o.op = Op.makeSlice t x y) (e : TypeId) (h1 : P.underlying t = some (.slice e))
    (h2 : (P.info? e).map (fun i => (i.zero, i.size, i.bytes)) = some (some (.agg #[.int .u64 0, .int .u64 0, .int .u64 0, .int .u64 0]), 4, 32)) (kl kc : IntKind) (n : Nat) (hl : a.eval x = .int kl (n : Int)) (hc : a.eval y = .int kc (n : Int)) (hn : n ≤ 65536)
    (h : ∀ w', Hid (w' = w.alloc (.cells (vs .u64 (List.replicate n Mk.zero).flatten) e)) → wpList P ops Q rest (a.put o.dst (.slice (some ⟨w.heap.size, 0, none⟩) n n)) w') : wpList P ops Q (o :: rest) a w := by
  refine wpList_plain hg fun K hK' => ?_
  obtain ⟨i, hi, hz0, hz1, hz2⟩ := info_parts h2
  have hrun := run_make (P := P) w t e i _ h1 hi hz0 kl kc (n : Int) (n : Int) (by omega) (by omega) (by rw [hz2]; omega) (by omega)
  simp only [Int.toNat_natCast, hz1, Value.cells, made4] at hrun
  rw [← flat_zeros] at hrun
  unfold Oper.wp
  simp [execOp, hop, hl, hc, hrun, Result.andThen]
  exact hK' _ _ (h _ rfl)

theorem cv_get (l : List Core) (j : Nat) (h : j < l.length) : (cv l)[j]? = some (.int .i64 (Mk.nth (l.map (·.1)) j : Nat)) := by
  simp [cv, Mk.nth_getElem?, h]
/-- A part of a slice of its own. -/
theorem nats_of_own {w : World} {base : Nat} {zs : List Core} {g cap : Nat} (h : w.ownsRow base 3 1 (.slice (some ⟨g, 0, none⟩) zs.length cap) zs.length (cv zs)) (lo q : Nat) (hq : lo + q ≤ zs.length) :
    NatsAt w w.heap.size (some ⟨g, lo, none⟩) (((zs.map (·.1)).drop lo).take q) := by
  rcases h.2 with ⟨h0, _⟩ | ⟨g', cap', cur, h1, h2, h3, h4, h5, h6, h7⟩
  · cases h0
  · cases h1
    refine .inr ⟨_, rfl, (Array.getElem?_eq_some_iff.1 h3).1, fun j hj => ?_⟩
    have hj2 : j < q := by simp at hj; omega
    have hadd : (⟨g, lo, none⟩ : Addr).add j = ⟨g, lo + j, none⟩ := by unfold Addr.add; split <;> simp_all
    rw [hadd, cell_of_row w g (lo + j) cur 3 (0, 0) h3]
    have e1 : cur[lo + j]? = (cv zs)[lo + j]? := by
      rw [← h7, List.getElem?_take, if_pos (by omega)]; simp
    rw [e1, cv_get zs (lo + j) (by omega)]
    congr 3
    rw [Mk.nth_getElem?, Mk.nth_getElem?, List.getElem?_take, if_pos hj2, List.getElem?_drop]
theorem nats_whole {w : World} {base : Nat} {zs : List Core} {A : Option Addr} {cap : Nat} (h : w.ownsRow base 3 1 (.slice A zs.length cap) zs.length (cv zs)) :
    NatsAt w w.heap.size A (zs.map (·.1)) := by
  rcases h.2 with ⟨h0, h1⟩ | ⟨g', cap', cur, h1, h2, h3, h4, h5, h6, h7⟩
  · exact .inl (by have : zs = [] := List.length_eq_zero_iff.1 h1
                   simp [this])
  · cases h1
    have := nats_of_own h 0 zs.length (by omega)
    rw [List.drop_zero, List.take_of_length_le (by simp)] at this
    exact this
end Go.Proofs.Ythmlibapjhmdbaa
