/- How a script of calls is read. -/
import Derived.Test.YthmlibapjhmdbaaGQ20xQ34xQ25
import Derived.Test.YthmlibapjhmdbaaP0
import Derived.Test.YthmlibapjhmdbaaGQ36xQ37xQ38
namespace Go.Proofs.Ythmlibapjhmdbaa
open Go.ChangeShapes Go.WideShapes Go.ChangeAt Go.WideMaps Go.WideElems Go.RowKit Go.Joins Go.Deep

/-- A call. -/
structure Oq where
  d : Int
  n : Int
  f0 : Int
  f1 : Int
  f2 : Int
  f3 : Int
  r : Int
  pe : Int
  ds : Int
  m0 : Int
  m1 : Int
  m2 : Int
  m3 : Int
abbrev Oq.cs (o : Oq) : List Value := [.int .i64 o.d, .int .i64 o.n, .int .u64 o.f0, .int .u64 o.f1, .int .u64 o.f2, .int .u64 o.f3, .int .i64 o.r, .int .i64 o.pe, .int .i64 o.ds, .int .u64 o.m0, .int .u64 o.m1, .int .u64 o.m2, .int .u64 o.m3]
/-- A call at a place. -/
structure OqAt (w : World) (e : Addr) (o : Oq) : Prop where
  c0 : w.cell? e = some (.int .i64 o.d)
  c1 : w.cell? ⟨e.block, e.off + 1, none⟩ = some (.int .i64 o.n)
  c2 : w.cell? ⟨e.block, e.off + 2, none⟩ = some (.int .u64 o.f0)
  c3 : w.cell? ⟨e.block, e.off + 3, none⟩ = some (.int .u64 o.f1)
  c4 : w.cell? ⟨e.block, e.off + 4, none⟩ = some (.int .u64 o.f2)
  c5 : w.cell? ⟨e.block, e.off + 5, none⟩ = some (.int .u64 o.f3)
  c6 : w.cell? ⟨e.block, e.off + 6, none⟩ = some (.int .i64 o.r)
  c7 : w.cell? ⟨e.block, e.off + 7, none⟩ = some (.int .i64 o.pe)
  c8 : w.cell? ⟨e.block, e.off + 8, none⟩ = some (.int .i64 o.ds)
  c9 : w.cell? ⟨e.block, e.off + 9, none⟩ = some (.int .u64 o.m0)
  c10 : w.cell? ⟨e.block, e.off + 10, none⟩ = some (.int .u64 o.m1)
  c11 : w.cell? ⟨e.block, e.off + 11, none⟩ = some (.int .u64 o.m2)
  c12 : w.cell? ⟨e.block, e.off + 12, none⟩ = some (.int .u64 o.m3)
theorem OqAt.next {w w' : World} {e : Addr} {o : Oq} (h : OqAt w e o) (he : e.block < w.heap.size) (hb : Below w.heap.size w w') : OqAt w' e o :=
  ⟨(hb.cell he).trans h.c0, (hb.cell (p := ⟨e.block, e.off + 1, none⟩) he).trans h.c1, (hb.cell (p := ⟨e.block, e.off + 2, none⟩) he).trans h.c2, (hb.cell (p := ⟨e.block, e.off + 3, none⟩) he).trans h.c3, (hb.cell (p := ⟨e.block, e.off + 4, none⟩) he).trans h.c4, (hb.cell (p := ⟨e.block, e.off + 5, none⟩) he).trans h.c5, (hb.cell (p := ⟨e.block, e.off + 6, none⟩) he).trans h.c6, (hb.cell (p := ⟨e.block, e.off + 7, none⟩) he).trans h.c7, (hb.cell (p := ⟨e.block, e.off + 8, none⟩) he).trans h.c8, (hb.cell (p := ⟨e.block, e.off + 9, none⟩) he).trans h.c9, (hb.cell (p := ⟨e.block, e.off + 10, none⟩) he).trans h.c10, (hb.cell (p := ⟨e.block, e.off + 11, none⟩) he).trans h.c11, (hb.cell (p := ⟨e.block, e.off + 12, none⟩) he).trans h.c12⟩
/-- The numbers of a call's masks. -/
structure W8 (o : Oq) : Prop where
  f0 : (Lit.int .u64 o.f0).wf = true
  f1 : (Lit.int .u64 o.f1).wf = true
  f2 : (Lit.int .u64 o.f2).wf = true
  f3 : (Lit.int .u64 o.f3).wf = true
  m0 : (Lit.int .u64 o.m0).wf = true
  m1 : (Lit.int .u64 o.m1).wf = true
  m2 : (Lit.int .u64 o.m2).wf = true
  m3 : (Lit.int .u64 o.m3).wf = true
/-- A script. -/
structure Sq (w : World) (A : Option Addr) (n : Nat) (os : List Oq) : Prop where
  at_ : n = 0 ∨ ∃ ad, A = some ad ∧ ad.block < w.heap.size ∧ ∀ i o, os[i]? = some o → OqAt w (ad.add (i * 13)) o
  ok : ∀ o ∈ os, wf o.n
  okm : ∀ o ∈ os, W8 o
  len : os.length = n
  most : n ≤ maxLen
/-- The call at a place, and that it lies there whatever is made. -/
theorem Sq.still {w : World} {A : Option Addr} {n : Nat} {os : List Oq} (h : Sq w A n os) {i : Nat} (hi : i < n) : ∃ ad o, A = some ad ∧ wf o.n ∧ ad.block < w.heap.size ∧ ∀ V, Below w.heap.size w V → OqAt V (ad.add (i * 13)) o := by
  have hl := h.len
  have e := List.getElem?_eq_getElem (l := os) (i := i) (by omega)
  have hm : os[i] ∈ os := List.getElem_mem _
  rcases h.at_ with q | ⟨ad, q, h1, h2⟩
  · omega
  · exact ⟨ad, os[i], q, h.ok _ hm, h1, fun V hV => (h2 i _ e).next (by rw [block_add]; exact h1) hV⟩
theorem Sq.still8 {w : World} {A : Option Addr} {n : Nat} {os : List Oq} (h : Sq w A n os) {i : Nat} (hi : i < n) : ∃ ad o, A = some ad ∧ wf o.n ∧ W8 o ∧ ad.block < w.heap.size ∧ ∀ V, Below w.heap.size w V → OqAt V (ad.add (i * 13)) o := by
  have hl := h.len
  have e := List.getElem?_eq_getElem (l := os) (i := i) (by omega)
  have hm : os[i] ∈ os := List.getElem_mem _
  rcases h.at_ with q | ⟨ad, q, h1, h2⟩
  · omega
  · exact ⟨ad, os[i], q, h.ok _ hm, h.okm _ hm, h1, fun V hV => (h2 i _ e).next (by rw [block_add]; exact h1) hV⟩
section
variable {H : Type} {enc : TypeId × Value → H} {w : World}
theorem add_pos (a : Addr) {n : Nat} (h : n ≠ 0) : a.add n = ⟨a.block, a.off + n, none⟩ := by unfold Addr.add; simp [h]
theorem add0 (a : Addr) : a.add 0 = a := by unfold Addr.add; simp
theorem cellsW : Try.prog.cellsOf 37 = 7 := by kernel_rfl
theorem cellsO : Try.prog.cellsOf 39 = 13 := by kernel_rfl
theorem block_of' {w : World} {a : Addr} {v : Value} (h : w.cell? a = some v) : a.block < w.heap.size := by
  rcases Nat.lt_or_ge a.block w.heap.size with h2 | h2
  · exact h2
  · rw [World.cell?, Array.getElem?_eq_none h2] at h
    cases h
set_option maxRecDepth 100000 in
theorem list_of {α : Type} {Q : Nat → α → Prop} : ∀ (n : Nat), (∀ i, i < n → ∃ x : α, Q i x) → ∃ xs : List α, xs.length = n ∧ ∀ i x, xs[i]? = some x → Q i x
  | 0, _ => ⟨[], rfl, fun i x h => by simp at h⟩
  | n + 1, h => by
    obtain ⟨xs, hl, hx⟩ := list_of n fun i hi => h i (by omega)
    obtain ⟨y, hy⟩ := h n (by omega)
    refine ⟨xs ++ [y], by simp [hl], fun i x hi => ?_⟩
    rcases Nat.lt_or_ge i n with h1 | h1
    · rw [List.getElem?_append_left (by omega)] at hi
      exact hx i x hi
    · rw [List.getElem?_append_right (by omega)] at hi
      have e : i - xs.length = 0 := by
        rcases Nat.eq_zero_or_pos (i - xs.length) with e | e
        · exact e
        · rw [List.getElem?_eq_none (by simp; omega)] at hi
          cases hi
      rw [e] at hi
      cases hi
      have : i = n := by omega
      subst this
      exact hy
set_option maxRecDepth 100000 in
theorem open_bits_c {fuel : Nat} {cs : List Value} {y : DataW H × List MemPlace} (hf' : DataW.trod enc Try.prog w 0 (fun _ => true) true fuel 35 cs = some y) :
    ∃ a b c e : Int, cs = [.int .u64 a, .int .u64 b, .int .u64 c, .int .u64 e] ∧ (Lit.int .u64 a).wf = true ∧ (Lit.int .u64 b).wf = true ∧ (Lit.int .u64 c).wf = true ∧ (Lit.int .u64 e).wf = true := by
  obtain ⟨xs, n, _, hx, hcl, hlen, hg⟩ := DataW.trod_array Try.underlying35 hf'
  clear hf'
  rw [cells35] at hcl
  match cs, hcl with
  | [c0, c1, c2, c3], _ =>
    match xs, hlen with
    | [y0, y1, y2, y3], _ =>
      have g0 := hg 0 (by omega)
      have g1 := hg 1 (by omega)
      have g2 := hg 2 (by omega)
      have g3 := hg 3 (by omega)
      simp [cells33] at g0 g1 g2 g3
      obtain ⟨z0, e0, _, w0⟩ := DataW.trod_int Try.underlying33 g0
      obtain ⟨z1, e1, _, w1⟩ := DataW.trod_int Try.underlying33 g1
      obtain ⟨z2, e2, _, w2⟩ := DataW.trod_int Try.underlying33 g2
      obtain ⟨z3, e3, _, w3⟩ := DataW.trod_int Try.underlying33 g3
      simp only [List.cons.injEq, and_true] at e0 e1 e2 e3
      subst e0 e1 e2 e3
      exact ⟨_, _, _, _, rfl, w0, w1, w2, w3⟩
set_option maxRecDepth 100000 in
theorem open_wish_c {fuel : Nat} {cs : List Value} {y : DataW H × List MemPlace} (hf : DataW.trod enc Try.prog w 0 (fun _ => true) true fuel 37 cs = some y) :
    ∃ a b c e r pe ds : Int, cs = [.int .u64 a, .int .u64 b, .int .u64 c, .int .u64 e, .int .i64 r, .int .i64 pe, .int .i64 ds] ∧ (Lit.int .u64 a).wf = true ∧ (Lit.int .u64 b).wf = true ∧ (Lit.int .u64 c).wf = true ∧ (Lit.int .u64 e).wf = true := by
  obtain ⟨xs, n, _, hx, hcl, hlen, hg⟩ := DataW.trod_struct Try.underlying37 hf
  rw [cellsW] at hcl
  match cs, hcl with
  | [c0, c1, c2, c3, c4, c5, c6], _ =>
    match xs, hlen with
    | [y0, y1, y2, y3], _ =>
      have g0 := hg 0 _ rfl
      have g1 := hg 1 _ rfl
      have g2 := hg 2 _ rfl
      have g3 := hg 3 _ rfl
      simp [cells3, cells35] at g0 g1 g2 g3
      obtain ⟨a, b, c, e, e0, wb⟩ := open_bits_c g0
      obtain ⟨z1, e1, _, _⟩ := DataW.trod_int Try.underlying3 g1
      obtain ⟨z2, e2, _, _⟩ := DataW.trod_int Try.underlying3 g2
      obtain ⟨z3, e3, _, _⟩ := DataW.trod_int Try.underlying3 g3
      simp only [List.cons.injEq, and_true] at e0 e1 e2 e3
      obtain ⟨rfl, rfl, rfl, rfl⟩ := e0
      subst e1 e2 e3
      exact ⟨_, _, _, _, _, _, _, rfl, wb⟩
set_option maxRecDepth 100000 in
theorem open_op_c {fuel : Nat} {cs : List Value} {y : DataW H × List MemPlace} (hf : DataW.trod enc Try.prog w 0 (fun _ => true) true fuel 39 cs = some y) : ∃ o : Oq, cs = o.cs ∧ wf o.n ∧ W8 o := by
  obtain ⟨xs, n, _, hx, hcl, hlen, hg⟩ := DataW.trod_struct Try.underlying39 hf
  rw [cellsO] at hcl
  match cs, hcl with
  | [c0, c1, c2, c3, c4, c5, c6, c7, c8, c9, c10, c11, c12], _ =>
    match xs, hlen with
    | [y0, y1, y2, y3], _ =>
      have g0 := hg 0 _ rfl
      have g1 := hg 1 _ rfl
      have g2 := hg 2 _ rfl
      have g3 := hg 3 _ rfl
      simp [cells3, cells35, cellsW] at g0 g1 g2 g3
      obtain ⟨z0, e0, _, w0⟩ := DataW.trod_int Try.underlying3 g0
      obtain ⟨z1, e1, _, w1⟩ := DataW.trod_int Try.underlying3 g1
      obtain ⟨a, b, c, e, r, pe, ds, e2, x0, x1, x2, x3⟩ := open_wish_c g2
      obtain ⟨a', b', c', e', e3, y0, y1, y2, y3⟩ := open_bits_c g3
      simp only [List.cons.injEq, and_true] at e0 e1 e2 e3
      obtain ⟨rfl, rfl, rfl, rfl, rfl, rfl, rfl⟩ := e2
      obtain ⟨rfl, rfl, rfl, rfl⟩ := e3
      subst e0 e1
      exact ⟨⟨_, _, a, b, c, e, r, pe, ds, a', b', c', e'⟩, rfl, w1, ⟨x0, x1, x2, x3, y0, y1, y2, y3⟩⟩
set_option maxRecDepth 100000 in
theorem open_scr {r : Reach} {b0 : Nat} {v : Value} {d : DataW H} {p : List MemPlace} (hv : Value.okWide Try.prog w r b0 24 v) (h : DataW.Trod enc Try.prog w 0 (fun _ => true) true 24 v d p) :
    ∃ (A : Option Addr) (n cap : Nat) (os : List Oq), v = .slice A n cap ∧ Sq w A n os := by
  obtain ⟨a0, len0, cap0, rfl⟩ := okWide_slice Try.underlying24 hv
  obtain ⟨fuel, hf⟩ := h
  have hf' : DataW.trod enc Try.prog w 0 (fun _ => true) true fuel 24 [.slice a0 len0 cap0] = some (d, p) := hf
  rcases open_slice Try.underlying24 hf' with ⟨hcs, _⟩ | ⟨a, len, cap, m, n, D, Pl, hcs, _, hl, hc, hm, _, hel⟩
  · simp only [List.cons.injEq, and_true] at hcs
    rw [hcs]
    exact ⟨none, 0, 0, [], rfl, .inl rfl, (fun o ho => by cases ho), (fun o ho => by cases ho), rfl, Nat.zero_le _⟩
  · simp only [List.cons.injEq, and_true] at hcs
    rw [hcs]
    simp only [if_true] at hm
    subst hm
    have each : ∀ i, i < len → ∃ o : Oq, OqAt w (a.add (i * 13)) o ∧ wf o.n ∧ W8 o := by
      intro i hi
      obtain ⟨cs', h1, h2⟩ := hel i (by omega)
      rw [cellsO] at h1
      obtain ⟨o, rfl, hok⟩ := open_op_c h2
      have q := fun k (hk : k < 13) => (World.cells?_some h1).2.2 k hk
      have q0 := q 0 (by omega)
      have q1 := q 1 (by omega)
      have q2 := q 2 (by omega)
      have q3 := q 3 (by omega)
      have q4 := q 4 (by omega)
      have q5 := q 5 (by omega)
      have q6 := q 6 (by omega)
      have q7 := q 7 (by omega)
      have q8 := q 8 (by omega)
      have q9 := q 9 (by omega)
      have q10 := q 10 (by omega)
      have q11 := q 11 (by omega)
      have q12 := q 12 (by omega)
      rw [add_pos _ (by omega)] at q1 q2 q3 q4 q5 q6 q7 q8 q9 q10 q11 q12
      rw [add0] at q0
      exact ⟨o, ⟨q0, q1, q2, q3, q4, q5, q6, q7, q8, q9, q10, q11, q12⟩, hok⟩
    obtain ⟨os, h1, h2⟩ := list_of len each
    refine ⟨some a, len, _, os, rfl, ?_, fun o ho => ?_, fun o ho => ?_, h1, by omega⟩
    · rcases Nat.eq_zero_or_pos len with e | e
      · exact .inl e
      · refine .inr ⟨a, rfl, ?_, fun i o hi => (h2 i o hi).1⟩
        obtain ⟨o, ho, _⟩ := each 0 e
        have h0 := ho.c0
        rw [show a.add (0 * 13) = a from add0 a] at h0
        exact block_of' h0
    · obtain ⟨i, hi, e⟩ := List.getElem_of_mem ho
      exact (h2 i o (by rw [List.getElem?_eq_getElem hi, e])).2.1
    · obtain ⟨i, hi, e⟩ := List.getElem_of_mem ho
      exact (h2 i o (by rw [List.getElem?_eq_getElem hi, e])).2.2
end
end Go.Proofs.Ythmlibapjhmdbaa
/- What PoolOwners knows on its way; what its calls tell. -/
namespace Go.Proofs.Ythmlibapjhmdbaa
open Go.RowKit Go.Shelf Go.Maps Go.Sort

theorem zs_at {w : World} {base : Nat} {A : Option Addr} {n cap : Nat} {L : List Int} (h : w.ownsRow base 3 1 (.slice A n cap) n (L.map encZ)) : n = 0 ∨ ∃ g', A = some ⟨g', 0, none⟩ ∧ g' < w.heap.size ∧ ∀ j z, j < n → L[j]? = some z → w.cell? ⟨g', j, none⟩ = some (.int .i64 z) := by
  rcases h.2 with ⟨h0, h1⟩ | ⟨g', cap', cur, h1, h2, h3, h4, h5, h6, h7⟩
  · exact .inl h1
  · cases h1
    refine .inr ⟨_, rfl, (Array.getElem?_eq_some_iff.1 h3).1, fun j z hn hj => ?_⟩
    rw [cell_of_row w g' j cur 3 (0, 0) h3]
    have e1 : cur[j]? = (L.map encZ)[j]? := by
      rw [← h7, List.getElem?_take, if_pos (by omega)]; simp
    rw [e1]
    simp [hj]
/-- What the law knows on its way. -/
structure St (w V : World) (p b k s q : Nat) (g : Int → Option Sh) (L : List Int) : Prop where
  pool : PoolAt V p b k s q g
  low : Below w.heap.size w V
  nb : w.heap.size ≤ b
  own : Own g L k
section
variable {w V V' : World} {p b k s q : Nat} {g : Int → Option Sh} {L : List Int}
theorem St.next (h : St w V p b k s q g L) (hb : Below V.heap.size V V') : St w V' p b k s q g L := ⟨h.pool.next hb, h.low.trans (hb.mono h.low.size), h.nb, h.own⟩
theorem St.put (h : St w V p b k s q g L) {n : Int} {c : Sh} (hc : c.m ≠ Mk.zero) (ht : Turned V V' p b (k + 1) s q (fun m => if m = n then some c else g m)) : ∃ L', St w V' p b (k + 1) s q (fun m => if m = n then some c else g m) L' := by
  obtain ⟨L', h2⟩ := h.own.put n hc
  exact ⟨L', ht.pool, h.low.grown ht.grown h.low.size (fun j ej => by cases ej; exact h.nb), h.nb, h2⟩
theorem St.del (h : St w V p b k s q g L) {n : Int} (ht : Turned V V' p b k s q (fun m => if m = n then Option.none else g m)) : ∃ L', St w V' p b k s q (fun m => if m = n then Option.none else g m) L' := by
  obtain ⟨L', h2⟩ := h.own.del n
  exact ⟨L', ht.pool, h.low.grown ht.grown h.low.size (fun j ej => by cases ej; exact h.nb), h.nb, h2⟩
end
/-- Masks that were told. -/
structure Ms (V : World) (A : Option Addr) (R : Nat) (ms : List (List Nat)) : Prop where
  len : ms.length = R
  most : R ≤ 32
  w4 : ∀ m ∈ ms, Mk.W4 m
  at_ : R = 0 ∨ ∃ gm, A = some ⟨gm, 0, none⟩ ∧ MasksAt V V.heap.size gm ms
theorem Ms.next {V V' : World} {A : Option Addr} {R : Nat} {ms : List (List Nat)} (h : Ms V A R ms) (hb : Below V.heap.size V V') : Ms V' A R ms := by
  refine ⟨h.len, h.most, h.w4, ?_⟩
  rcases h.at_ with e | ⟨gm, e, h1⟩
  · exact .inl e
  · exact .inr ⟨gm, e, h1.next hb⟩
/-- The mask at a place. -/
theorem Ms.still {V : World} {A : Option Addr} {R : Nat} {ms : List (List Nat)} (h : Ms V A R ms) {j : Nat} (hj : j < R) : ∃ gm m, A = some ⟨gm, 0, none⟩ ∧ ms[j]? = some m ∧ Mk.W4 m ∧ ∀ V', Below V.heap.size V V' → MasksAt V' V'.heap.size gm ms := by
  have hl := h.len
  have e := List.getElem?_eq_getElem (l := ms) (i := j) (by omega)
  rcases h.at_ with q | ⟨gm, q, h1⟩
  · omega
  · exact ⟨gm, ms[j], q, e, h.w4 _ (List.getElem_mem _), fun V' hb => h1.next hb⟩
/-- What Reserve does to the law's pool. -/
def Res (w : World) (p b k s q : Nat) (n : Int) (B : Nat) (cs : Array Value) (e : Ending) (w' : World) : Prop :=
  ∃ (A : Option Addr) (R : Nat) (ms : List (List Nat)) (er : Int) (k' : Nat) (g' : Int → Option Sh) (L' : List Int),
    e = .returned (.tuple #[.slice A R R, .int .i64 er]) ∧ Ms w' A R ms ∧ k' ≤ k + 1 ∧ St w w' p b k' s q g' L' ∧ Bk w' B 39 cs ∧ (er = 0 → ((g' n).getD Sh.none).m = orAll ms ∧ ((g' n).getD Sh.none).t = false)
theorem res_any {w V : World} {p b k s q : Nat} {g : Int → Option Sh} {L : List Int} (h : St w V p b k s q g L) (hL : LOk s q) {n : Int} (hn : (Lit.int .i64 n).wf = true) (r pe d : Int) (hk : k < 1000000) (B : Nat) (cs : Array Value) (hB : Bk V B 39 cs) (hne : B ≠ b) :
    Calls Try.prog 26 #[.pointer (some ⟨p, 0, none⟩), .int .i64 n, .agg #[.int .u64 0, .int .u64 0, .int .u64 0, .int .u64 0, .int .i64 r, .int .i64 pe, .int .i64 d]] V (Res w p b k s q n B cs) := by
  refine (reserve_any h.pool hL hn 0 0 0 0 r pe d hk).mono ?_
  rintro e w' (⟨er, rfl, her, hb⟩ | ⟨gm, R, ms, c, rfl, h1, h2, h3, h4, h5, h6, h7, h8, h9⟩)
  · exact ⟨none, 0, [], er, k, g, L, rfl, ⟨rfl, by omega, (fun m hm => by cases hm), .inl rfl⟩, by omega, h.next hb, hB.next hb, fun e => absurd e her⟩
  · obtain ⟨L', hS⟩ := h.put h8 h9
    refine ⟨_, R, ms, 0, k + 1, _, L', rfl, ⟨h4, h5, h3, .inr ⟨gm, rfl, masks_row h2 (fun m hm => (h3 m hm).1)⟩⟩, Nat.le_refl _, hS, hB.grown h9.grown hne, fun _ => ?_⟩
    simp only [if_true, Option.getD_some]
    exact ⟨h6, h7⟩
/-- What Release does to it. -/
def Rel (w : World) (p b k s q : Nat) (B : Nat) (cs : Array Value) (e : Ending) (w' : World) : Prop :=
  ∃ (er : Int) (g' : Int → Option Sh) (L' : List Int), e = .returned (.int .i64 er) ∧ St w w' p b k s q g' L' ∧ Bk w' B 39 cs
theorem rel_any {w V : World} {p b k s q : Nat} {g : Int → Option Sh} {L : List Int} (h : St w V p b k s q g L) {n : Int} (hn : (Lit.int .i64 n).wf = true) (B : Nat) (cs : Array Value) (hB : Bk V B 39 cs) (hne : B ≠ b) :
    Calls Try.prog 25 #[.pointer (some ⟨p, 0, none⟩), .int .i64 n] V (Rel w p b k s q B cs) := by
  cases hg : (g n).isSome with
  | false =>
    refine (release_no h.pool hn hg).mono ?_
    rintro e w' ⟨rfl, hb⟩
    exact ⟨14, g, L, rfl, h.next hb, hB.next hb⟩
  | true =>
    refine (release_ok h.pool hn hg).mono ?_
    rintro e w' ⟨rfl, ht⟩
    obtain ⟨L', hS⟩ := h.del ht
    exact ⟨0, _, L', rfl, hS, hB.grown ht.grown hne⟩
/-- Bk, its first four cells set. -/
theorem Bk.set4 {w : World} {gg : Nat} {t : TypeId} {x0 x1 x2 x3 : Value} (h : Bk w gg t #[x0, x1, x2, x3]) (a b c d : Value) : Bk ((((w.setCell ⟨gg, 0, none⟩ a).setCell ⟨gg, 1, none⟩ b).setCell ⟨gg, 2, none⟩ c).setCell ⟨gg, 3, none⟩ d) gg t #[a, b, c, d] := by
  have e1 := heap_setCell_same w gg 0 _ t a h
  have e2 := heap_setCell_same _ gg 1 _ t b e1
  have e3 := heap_setCell_same _ gg 2 _ t c e2
  have e4 := heap_setCell_same _ gg 3 _ t d e3
  simpa [Bk] using e4
theorem below_set4 {B gg : Nat} {w V : World} (h : Below B w V) (hg : B ≤ gg) (a b c d : Value) : Below B w ((((V.setCell ⟨gg, 0, none⟩ a).setCell ⟨gg, 1, none⟩ b).setCell ⟨gg, 2, none⟩ c).setCell ⟨gg, 3, none⟩ d) :=
  (((h.setCell (p := ⟨gg, 0, none⟩) hg a).setCell (p := ⟨gg, 1, none⟩) hg b).setCell (p := ⟨gg, 2, none⟩) hg c).setCell (p := ⟨gg, 3, none⟩) hg d
end Go.Proofs.Ythmlibapjhmdbaa
/- Both pools in memory; what a call on one does to both. -/
namespace Go.Proofs.Ythmlibapjhmdbaa
open Go.RowKit Go.Shelf Go.Maps

theorem own_map_at {w w' : World} {b k : Nat} {D : DataW Unit} (h : w.ownsMap Try.prog 3 shE b k D) (hb : w'.heap[b]? = w.heap[b]?) : w'.ownsMap Try.prog 3 shE b k D := by
  obtain ⟨es, clock, h1, Ft, hs, hD⟩ := h
  exact ⟨es, clock, hb.trans h1, Ft, hs, hD⟩
theorem PoolAt.under {w w' : World} {p b k s q r : Nat} {g : Int → Option Sh} (h : PoolAt w p b k s q g) (hp : p < r) (hb : b < r) (hw : Below r w w') : PoolAt w' p b k s q g := by
  obtain ⟨D, h1, h2⟩ := h.own
  exact ⟨h.blk.below hw hp, D, own_map_at h1 (hw.block b hb), h2⟩
theorem RPool.turned {w w' : World} {r s q na nb b : Nat} {va vb : Value} {Ow Dn : List Int} (h : RPool w r s q va vb na nb Ow Dn) (hg : w.grownBy w' (some b)) (hb : b < r) : RPool w' r s q va vb na nb Ow Dn :=
  ⟨h.blk.grown hg (by omega), own_kept h.ra hg (fun g e e2 => by have := (own_blk h.ra e).1; have e3 : b = g := Option.some.inj e2; omega), own_kept h.rb hg (fun g e e2 => by have := (own_blk h.rb e).1; have e3 : b = g := Option.some.inj e2; omega), h.ab, h.la, h.lb⟩
/-- The blocks of both. -/
def PX (b r : Nat) (va vb : Value) (i : Nat) : Prop := i = b ∨ RX r va vb i
/-- Both pools, apart. -/
structure Two (w V : World) (p b k s q : Nat) (g : Int → Option Sh) (L : List Int) (r nb : Nat) (va vb : Value) (Ow Dn : List Int) : Prop where
  st : St w V p b k s q g L
  hp : p < r
  hb : b < r
  hr : w.heap.size ≤ r
  rp : RPool V r s q va vb (s * q) nb Ow Dn
section
variable {w V V' : World} {p b k k' s q r nb nb' : Nat} {g g' : Int → Option Sh} {L : List Int} {va vb va' vb' : Value} {Ow Dn Ow' Dn' : List Int}
theorem Two.next (h : Two w V p b k s q g L r nb va vb Ow Dn) (hb : Below V.heap.size V V') : Two w V' p b k s q g L r nb va vb Ow Dn := ⟨h.st.next hb, h.hp, h.hb, h.hr, h.rp.next hb⟩
theorem Two.lt (h : Two w V p b k s q g L r nb va vb Ow Dn) : ∀ i, PX b r va vb i → i < V.heap.size := by
  rintro i (rfl | rfl | e | e)
  · exact h.st.pool.ltb
  · exact h.rp.blk.lt
  · exact (own_blk h.rp.ra e).2
  · exact (own_blk h.rp.rb e).2
theorem Two.ge (h : Two w V p b k s q g L r nb va vb Ow Dn) : ∀ i, RX r va vb i → r ≤ i := by
  rintro i (rfl | e | e)
  · exact Nat.le_refl _
  · have := (own_blk h.rp.ra e).1; omega
  · have := (own_blk h.rp.rb e).1; omega
theorem Two.prog (h : Two w V p b k s q g L r nb va vb Ow Dn) (ht : Turned V V' p b k' s q g') (hO : ∃ L', Own g' L' k') : ∃ L', Two w V' p b k' s q g' L' r nb va vb Ow Dn := by
  obtain ⟨L', h2⟩ := hO
  exact ⟨L', ⟨ht.pool, h.st.low.grown ht.grown h.st.low.size (fun j ej => by cases ej; exact h.st.nb), h.st.nb, h2⟩, h.hp, h.hb, h.hr, h.rp.turned ht.grown h.hb⟩
theorem Two.ref (h : Two w V p b k s q g L r nb va vb Ow Dn) (ht : Td (RX r va vb) V V') (hR : RPool V' r s q va' vb' (s * q) nb' Ow' Dn') : Two w V' p b k s q g L r nb' va' vb' Ow' Dn' := by
  have hB := ht.below h.ge (Nat.le_of_lt h.rp.blk.lt)
  exact ⟨⟨h.st.pool.under h.hp h.hb hB, h.st.low.trans (hB.mono h.hr), h.st.nb, h.st.own⟩, h.hp, h.hb, h.hr, hR⟩
/-- Somewhere on the way: the program's pool has turned. -/
structure Md (w V W : World) (p b k s q : Nat) (g : Int → Option Sh) (L : List Int) (r nb : Nat) (va vb : Value) (Ow Dn : List Int) (B : Nat) (cs : Array Value) : Prop where
  two : Two w W p b k s q g L r nb va vb Ow Dn
  td : Td (PX b r va vb) V W
  bk : Bk W B 39 cs
theorem Md.start (h : Two w V p b k s q g L r nb va vb Ow Dn) {B : Nat} {cs : Array Value} (kb : Bk V B 39 cs) {W : World} (hW : Below V.heap.size V W) : Md w V W p b k s q g L r nb va vb Ow Dn B cs := ⟨h.next hW, Td.of_below hW, kb.next hW⟩
variable {W W' : World} {B : Nat} {cs : Array Value}
theorem Md.next (h : Md w V W p b k s q g L r nb va vb Ow Dn B cs) (hW : Below W.heap.size W W') : Md w V W' p b k s q g L r nb va vb Ow Dn B cs := ⟨h.two.next hW, h.td.trans (Td.of_below hW), h.bk.next hW⟩
theorem Md.prog (h : Md w V W p b k s q g L r nb va vb Ow Dn B cs) (hx : ¬ PX b r va vb B) (ht : Turned W W' p b k' s q g') (hO : ∃ L', Own g' L' k') : ∃ L', Md w V W' p b k' s q g' L' r nb va vb Ow Dn B cs := by
  obtain ⟨L', h2⟩ := h.two.prog ht hO
  exact ⟨L', h2, h.td.trans (Td.grown ht.grown (fun i e => by cases e; exact .inl rfl)), h.bk.grown ht.grown (fun e => hx (.inl e))⟩
/-- At the end: both have turned. -/
structure En (w V W : World) (p b k s q : Nat) (g : Int → Option Sh) (L : List Int) (r nb : Nat) (va vb va' vb' : Value) (Ow Dn : List Int) (B : Nat) (cs : Array Value) : Prop where
  two : Two w W p b k s q g L r nb va' vb' Ow Dn
  td : Td (PX b r va vb) V W
  bk : Bk W B 39 cs
theorem Md.ref (h : Md w V W p b k s q g L r nb va vb Ow Dn B cs) (hx : ¬ PX b r va vb B) (ht : Td (RX r va vb) W W') (hR : RPool W' r s q va' vb' (s * q) nb' Ow' Dn') : En w V W' p b k s q g L r nb' va vb va' vb' Ow' Dn' B cs :=
  ⟨h.two.ref ht hR, h.td.trans (ht.mono fun _ e => .inr e), ht.bk h.bk (fun e => hx (.inr e))⟩
theorem Md.same (h : Md w V W p b k s q g L r nb va vb Ow Dn B cs) (hW : Below W.heap.size W W') : En w V W' p b k s q g L r nb va vb va vb Ow Dn B cs := ⟨h.two.next hW, h.td.trans (Td.of_below hW), h.bk.next hW⟩
theorem En.next (h : En w V W p b k s q g L r nb va vb va' vb' Ow Dn B cs) (hW : Below W.heap.size W W') : En w V W' p b k s q g L r nb va vb va' vb' Ow Dn B cs := ⟨h.two.next hW, h.td.trans (Td.of_below hW), h.bk.next hW⟩
/-- Somebody is given cores that were free. -/
def Gvn (N : Nat) (g g' : Int → Option Sh) (n : Int) (c : Sh) : Prop :=
  isOwn n = true ∧ (g n).isSome = false ∧ c.m ≠ Mk.zero ∧ (∀ x, x < 256 → Mk.hasB c.m x = true → Mk.hasB (freeM (Mk.ofL (List.range N)) g) x = true) ∧ g' = fun m => if m = n then some c else g m
/-- Take. -/
def PTk (w V W' : World) (p b k s q : Nat) (g : Int → Option Sh) (r nb : Nat) (va vb : Value) (Ow Dn : List Int) (B : Nat) (cs : Array Value) (n : Int) (m : List Nat) : Prop :=
  ∃ k' g' L', k' ≤ k + 1 ∧ Md w V W' p b k' s q g' L' r nb va vb Ow Dn B cs ∧ ((tkE s q g n m ≠ 0 ∧ g' = g) ∨ (tkE s q g n m = 0 ∧ ∃ c : Sh, c.m = m ∧ c.t = true ∧ Gvn (s * q) g g' n c))
theorem Md.take (h : Md w V W p b k s q g L r nb va vb Ow Dn B cs) (hx : ¬ PX b r va vb B) (hL : LOk s q) (hk : k ≤ 900) {n : Int} (hn : (Lit.int .i64 n).wf = true) (a0 a1 a2 a3 : Nat) (ha : Mk.W4 [a0, a1, a2, a3]) :
    Calls Try.prog 27 #[.pointer (some ⟨p, 0, none⟩), .int .i64 n, .agg #[.int .u64 a0, .int .u64 a1, .int .u64 a2, .int .u64 a3]] W fun e w' => e = .returned (.int .i64 (tkE s q g n [a0, a1, a2, a3])) ∧ PTk w V w' p b k s q g r nb va vb Ow Dn B cs n [a0, a1, a2, a3] := by
  refine (take_ex h.two.st.pool hL hn a0 a1 a2 a3 ha (by omega)).mono ?_
  rintro e w' (⟨h1, rfl, hb⟩ | ⟨h1, rfl, h2, h3, h4, h5, h6⟩)
  · exact ⟨rfl, k, g, L, by omega, h.next hb, .inl ⟨h1, rfl⟩⟩
  · obtain ⟨L', hM⟩ := h.prog hx h6 (h.two.st.own.put n (c := ⟨[a0, a1, a2, a3], true, ha⟩) h4)
    exact ⟨by rw [h1], k + 1, _, L', Nat.le_refl _, hM, .inr ⟨h1, ⟨[a0, a1, a2, a3], true, ha⟩, rfl, rfl, h2, h3, h4, h5, rfl⟩⟩
/-- The document's Take. -/
def RTk (w V W' : World) (p b k s q : Nat) (g : Int → Option Sh) (L : List Int) (r nb : Nat) (va vb : Value) (Ow Dn : List Int) (B : Nat) (cs : Array Value) (n : Int) (m : List Nat) : Prop :=
  ∃ nb' va' vb' Ow' Dn', nb' ≤ nb + 1 ∧ En w V W' p b k s q g L r nb' va vb va' vb' Ow' Dn' B cs ∧ ((rtE Ow n m ≠ 0 ∧ Ow' = Ow ∧ Dn' = Dn) ∨ (rtE Ow n m = 0 ∧ Ow' = gv m n Ow (s * q) ∧ Dn' = Dn ++ [n]))
theorem LOk.pos (hL : LOk s q) : 1 ≤ s * q := Nat.mul_pos hL.1 hL.2.2.1
theorem Md.rtake (h : Md w V W p b k s q g L r nb va vb Ow Dn B cs) (hx : ¬ PX b r va vb B) (hL : LOk s q) (hd : nb ≤ 900) (n : Int) (a0 a1 a2 a3 : Nat) (ha : Mk.W4 [a0, a1, a2, a3]) :
    Calls Try.prog 34 #[.pointer (some ⟨r, 0, none⟩), .int .i64 n, .agg #[.int .u64 a0, .int .u64 a1, .int .u64 a2, .int .u64 a3]] W fun e w' => e = .returned (.int .i64 (rtE Ow n [a0, a1, a2, a3])) ∧ RTk w V w' p b k s q g L r nb va vb Ow Dn B cs n [a0, a1, a2, a3] := by
  refine (rtake_any h.two.rp hL.2.2.2.2 hL.pos (by omega) n a0 a1 a2 a3 ha).mono ?_
  rintro e w' (⟨h1, rfl, hb⟩ | ⟨h1, rfl, ⟨vb', hR⟩, ht⟩)
  · exact ⟨rfl, nb, va, vb, Ow, Dn, by omega, h.same hb, .inl ⟨h1, rfl, rfl⟩⟩
  · exact ⟨by rw [h1], nb + 1, va, vb', _, _, Nat.le_refl _, h.ref hx ht hR, .inr ⟨h1, rfl, rfl⟩⟩
/-- Commit. -/
def cmE (g : Int → Option Sh) (n : Int) : Int := if (g n).isSome = true ∧ ((g n).getD Sh.none).t = false then 0 else 14
def PCm (w V W' : World) (p b k s q : Nat) (g : Int → Option Sh) (r nb : Nat) (va vb : Value) (Ow Dn : List Int) (B : Nat) (cs : Array Value) (n : Int) : Prop :=
  ∃ k' g' L', k' ≤ k + 1 ∧ Md w V W' p b k' s q g' L' r nb va vb Ow Dn B cs ∧ ((cmE g n ≠ 0 ∧ g' = g) ∨ (cmE g n = 0 ∧ ∃ c, g n = some c ∧ c.t = false ∧ g' = fun m => if m = n then some ⟨c.m, true, c.ok⟩ else g m))
theorem Md.commit (h : Md w V W p b k s q g L r nb va vb Ow Dn B cs) (hx : ¬ PX b r va vb B) (hk : k ≤ 900) {n : Int} (hn : (Lit.int .i64 n).wf = true) :
    Calls Try.prog 28 #[.pointer (some ⟨p, 0, none⟩), .int .i64 n] W fun e w' => e = .returned (.int .i64 (cmE g n)) ∧ PCm w V w' p b k s q g r nb va vb Ow Dn B cs n := by
  refine (commit_any h.two.st.pool hn (by omega)).mono ?_
  rintro e w' (⟨rfl, h1, hb⟩ | ⟨c, h1, h2, rfl, h3⟩)
  · have hE : cmE g n = 14 := by
      unfold cmE
      rw [if_neg]
      rintro ⟨h4, h5⟩
      rw [h1 h4] at h5
      cases h5
    exact ⟨by rw [hE], k, g, L, by omega, h.next hb, .inl ⟨by rw [hE]; decide, rfl⟩⟩
  · have hE : cmE g n = 0 := by
      unfold cmE
      rw [h1, if_pos ⟨rfl, h2⟩]
    obtain ⟨L', hM⟩ := h.prog hx h3 (h.two.st.own.put n (c := ⟨c.m, true, c.ok⟩) (h.two.st.own.some_ n c h1))
    exact ⟨by rw [hE], k + 1, _, L', Nat.le_refl _, hM, .inr ⟨hE, c, h1, h2, rfl⟩⟩
/-- The document's Commit. -/
def rcE (Ow Dn : List Int) (n : Int) : Int := if rcB Ow Dn n = true then 14 else 0
def RCm (w V W' : World) (p b k s q : Nat) (g : Int → Option Sh) (L : List Int) (r nb : Nat) (va vb : Value) (Ow Dn : List Int) (B : Nat) (cs : Array Value) (n : Int) : Prop :=
  ∃ nb' va' vb' Ow' Dn', nb' ≤ nb + 1 ∧ En w V W' p b k s q g L r nb' va vb va' vb' Ow' Dn' B cs ∧ ((rcE Ow Dn n ≠ 0 ∧ Ow' = Ow ∧ Dn' = Dn) ∨ (rcE Ow Dn n = 0 ∧ Ow' = Ow ∧ Dn' = Dn ++ [n]))
theorem Md.rcommit (h : Md w V W p b k s q g L r nb va vb Ow Dn B cs) (hx : ¬ PX b r va vb B) (hL : LOk s q) (hd : nb ≤ 900) (n : Int) :
    Calls Try.prog 35 #[.pointer (some ⟨r, 0, none⟩), .int .i64 n] W fun e w' => e = .returned (.int .i64 (rcE Ow Dn n)) ∧ RCm w V w' p b k s q g L r nb va vb Ow Dn B cs n := by
  refine (rcommit_any h.two.rp hL.2.2.2.2 (by omega) n).mono ?_
  rintro e w' (⟨h1, rfl, hb⟩ | ⟨h1, rfl, ⟨vb', hR⟩, ht⟩)
  · have hE : rcE Ow Dn n = 14 := by unfold rcE; rw [if_pos h1]
    exact ⟨by rw [hE], nb, va, vb, Ow, Dn, by omega, h.same hb, .inl ⟨by rw [hE]; decide, rfl, rfl⟩⟩
  · have hE : rcE Ow Dn n = 0 := by unfold rcE; rw [h1]; rfl
    exact ⟨by rw [hE], nb + 1, va, vb', _, _, Nat.le_refl _, h.ref hx ht hR, .inr ⟨hE, rfl, rfl⟩⟩
/-- Release. -/
def rlE (g : Int → Option Sh) (n : Int) : Int := if (g n).isSome = true then 0 else 14
def PRl (w V W' : World) (p b k s q : Nat) (g : Int → Option Sh) (r nb : Nat) (va vb : Value) (Ow Dn : List Int) (B : Nat) (cs : Array Value) (n : Int) : Prop :=
  ∃ k' g' L', k' ≤ k + 1 ∧ Md w V W' p b k' s q g' L' r nb va vb Ow Dn B cs ∧ ((rlE g n ≠ 0 ∧ g' = g) ∨ (rlE g n = 0 ∧ (g n).isSome = true ∧ g' = fun m => if m = n then none else g m))
theorem Md.release (h : Md w V W p b k s q g L r nb va vb Ow Dn B cs) (hx : ¬ PX b r va vb B) {n : Int} (hn : (Lit.int .i64 n).wf = true) :
    Calls Try.prog 25 #[.pointer (some ⟨p, 0, none⟩), .int .i64 n] W fun e w' => e = .returned (.int .i64 (rlE g n)) ∧ PRl w V w' p b k s q g r nb va vb Ow Dn B cs n := by
  cases hg : (g n).isSome with
  | false =>
    have hE : rlE g n = 14 := by unfold rlE; rw [hg]; rfl
    refine (release_no h.two.st.pool hn hg).mono ?_
    rintro e w' ⟨rfl, hb⟩
    exact ⟨by rw [hE], k, g, L, by omega, h.next hb, .inl ⟨by rw [hE]; decide, rfl⟩⟩
  | true =>
    have hE : rlE g n = 0 := by unfold rlE; rw [hg]; rfl
    refine (release_ok h.two.st.pool hn hg).mono ?_
    rintro e w' ⟨rfl, ht⟩
    obtain ⟨L', hM⟩ := h.prog hx ht (h.two.st.own.del n)
    exact ⟨by rw [hE], k, _, L', by omega, hM, .inr ⟨hE, hg, rfl⟩⟩
/-- The document's Release. -/
def rrlE (Ow : List Int) (n : Int) : Int := if rh Ow n = true then 0 else 14
def RRl (w V W' : World) (p b k s q : Nat) (g : Int → Option Sh) (L : List Int) (r nb : Nat) (va vb : Value) (Ow Dn : List Int) (B : Nat) (cs : Array Value) (n : Int) : Prop :=
  ∃ nb' va' vb' Ow' Dn', nb' ≤ nb + 1 ∧ En w V W' p b k s q g L r nb' va vb va' vb' Ow' Dn' B cs ∧ ((rrlE Ow n ≠ 0 ∧ Ow' = Ow ∧ Dn' = Dn) ∨ (rrlE Ow n = 0 ∧ Ow' = gv (Mk.ofL (hv Ow n (s * q))) (-1) Ow (s * q) ∧ Dn' = rmD Dn n))
theorem Md.rrelease (h : Md w V W p b k s q g L r nb va vb Ow Dn B cs) (hx : ¬ PX b r va vb B) (hL : LOk s q) (hd : nb ≤ 900) (n : Int) :
    Calls Try.prog 36 #[.pointer (some ⟨r, 0, none⟩), .int .i64 n] W fun e w' => e = .returned (.int .i64 (rrlE Ow n)) ∧ RRl w V w' p b k s q g L r nb va vb Ow Dn B cs n := by
  refine (rrelease_any h.two.rp hL.2.2.2.2 hL.pos (by omega) n).mono ?_
  rintro e w' (⟨h1, rfl, hb⟩ | ⟨h1, rfl, ⟨vb', nb', h2, hR⟩, ht⟩)
  · have hE : rrlE Ow n = 14 := by unfold rrlE; rw [h1]; rfl
    exact ⟨by rw [hE], nb, va, vb, Ow, Dn, by omega, h.same hb, .inl ⟨by rw [hE]; decide, rfl, rfl⟩⟩
  · have hE : rrlE Ow n = 0 := by unfold rrlE; rw [h1]; rfl
    exact ⟨by rw [hE], nb', va, vb', _, _, by omega, h.ref hx ht hR, .inr ⟨hE, rfl, rfl⟩⟩
/-- Reserve that is refused; that gives masks. -/
theorem Md.res_no (h : Md w V W p b k s q g L r nb va vb Ow Dn B cs) (hL : LOk s q) (hk : k ≤ 900) {n : Int} (hn : (Lit.int .i64 n).wf = true) (x0 x1 x2 x3 : Nat) (rr pe d : Int) (hE : rsE s q g n rr pe d ≠ 0) :
    Calls Try.prog 26 #[.pointer (some ⟨p, 0, none⟩), .int .i64 n, .agg #[.int .u64 x0, .int .u64 x1, .int .u64 x2, .int .u64 x3, .int .i64 rr, .int .i64 pe, .int .i64 d]] W fun e w' => e = .returned (.tuple #[.slice none 0 0, .int .i64 (rsE s q g n rr pe d)]) ∧ Md w V w' p b k s q g L r nb va vb Ow Dn B cs := by
  refine (reserve_ex h.two.st.pool hL hn x0 x1 x2 x3 rr pe d (by omega)).mono ?_
  rintro e w' (⟨_, rfl, hb⟩ | ⟨h1, _⟩)
  · exact ⟨rfl, h.next hb⟩
  · exact absurd h1 hE
def PRs (w V W W' : World) (p b k s q : Nat) (g : Int → Option Sh) (r nb : Nat) (va vb : Value) (Ow Dn : List Int) (B : Nat) (cs : Array Value) (n : Int) (ms : List (List Nat)) (e : Ending) : Prop :=
  ∃ gm R g' L' c, e = .returned (.tuple #[.slice (some ⟨gm, 0, none⟩) R R, .int .i64 0]) ∧ W.heap.size ≤ gm ∧ MasksAt W' W'.heap.size gm ms ∧ ms.length = R ∧ 1 ≤ R ∧ R ≤ 32 ∧ (∀ m ∈ ms, Mk.W4 m) ∧ c.m = orAll ms ∧ c.t = false ∧ Gvn (s * q) g g' n c ∧ Md w V W' p b (k + 1) s q g' L' r nb va vb Ow Dn B cs
theorem Md.res_ok (h : Md w V W p b k s q g L r nb va vb Ow Dn B cs) (hx : ¬ PX b r va vb B) (hL : LOk s q) (hk : k ≤ 900) {n : Int} (hn : (Lit.int .i64 n).wf = true) (x0 x1 x2 x3 : Nat) (rr pe d : Int) (hE : rsE s q g n rr pe d = 0) :
    Calls Try.prog 26 #[.pointer (some ⟨p, 0, none⟩), .int .i64 n, .agg #[.int .u64 x0, .int .u64 x1, .int .u64 x2, .int .u64 x3, .int .i64 rr, .int .i64 pe, .int .i64 d]] W fun e w' => PRs w V W w' p b k s q g r nb va vb Ow Dn B cs n (rsM s q g rr pe d) e := by
  refine (reserve_ex h.two.st.pool hL hn x0 x1 x2 x3 rr pe d (by omega)).mono ?_
  rintro e w' (⟨h1, _⟩ | ⟨_, h0, hg, gm, R, c, rfl, h1, h2, h3, h4, h5, h6, h7, h8, h9, h10⟩)
  · exact absurd hE h1
  · obtain ⟨L', hM⟩ := h.prog hx h10 (h.two.st.own.put n h8)
    refine ⟨gm, R, _, L', c, rfl, h1, masks_row h2 (fun m hm => (h3 m hm).1), h4, ?_, h5, h3, h6, h7, ⟨h0, hg, h8, h9, rfl⟩, hM⟩
    rcases Nat.eq_zero_or_pos R with e | e
    · subst e
      rw [List.eq_nil_of_length_eq_zero h4] at h6
      exact absurd h6 h8
    · exact e
end
end Go.Proofs.Ythmlibapjhmdbaa
