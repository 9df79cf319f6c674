/- How a script of calls is read. -/
import Derived.Test.YthmlibapjhmdbaaQ20
import Derived.Test.YthmlibapjhmdbaaP0
namespace Go.Proofs.Ythmlibapjhmdbaa
open Go.ChangeShapes Go.WideShapes Go.ChangeAt Go.WideMaps Go.WideElems Go.RowKit Go.Joins Go.Deep

/-- A call. -/
structure Oq where
  d : Int
  n : Int
  f0 : Int
  f1 : Int
  f2 : Int
  f3 : Int
  r : Int
  pe : Int
  ds : Int
  m0 : Int
  m1 : Int
  m2 : Int
  m3 : Int
abbrev Oq.cs (o : Oq) : List Value := [.int .i64 o.d, .int .i64 o.n, .int .u64 o.f0, .int .u64 o.f1, .int .u64 o.f2, .int .u64 o.f3, .int .i64 o.r, .int .i64 o.pe, .int .i64 o.ds, .int .u64 o.m0, .int .u64 o.m1, .int .u64 o.m2, .int .u64 o.m3]
/-- A call at a place. -/
structure OqAt (w : World) (e : Addr) (o : Oq) : Prop where
  c0 : w.cell? e = some (.int .i64 o.d)
  c1 : w.cell? ⟨e.block, e.off + 1, none⟩ = some (.int .i64 o.n)
  c2 : w.cell? ⟨e.block, e.off + 2, none⟩ = some (.int .u64 o.f0)
  c3 : w.cell? ⟨e.block, e.off + 3, none⟩ = some (.int .u64 o.f1)
  c4 : w.cell? ⟨e.block, e.off + 4, none⟩ = some (.int .u64 o.f2)
  c5 : w.cell? ⟨e.block, e.off + 5, none⟩ = some (.int .u64 o.f3)
  c6 : w.cell? ⟨e.block, e.off + 6, none⟩ = some (.int .i64 o.r)
  c7 : w.cell? ⟨e.block, e.off + 7, none⟩ = some (.int .i64 o.pe)
  c8 : w.cell? ⟨e.block, e.off + 8, none⟩ = some (.int .i64 o.ds)
  c9 : w.cell? ⟨e.block, e.off + 9, none⟩ = some (.int .u64 o.m0)
  c10 : w.cell? ⟨e.block, e.off + 10, none⟩ = some (.int .u64 o.m1)
  c11 : w.cell? ⟨e.block, e.off + 11, none⟩ = some (.int .u64 o.m2)
  c12 : w.cell? ⟨e.block, e.off + 12, none⟩ = some (.int .u64 o.m3)
theorem OqAt.next {w w' : World} {e : Addr} {o : Oq} (h : OqAt w e o) (he : e.block < w.heap.size) (hb : Below w.heap.size w w') : OqAt w' e o :=
  ⟨(hb.cell he).trans h.c0, (hb.cell (p := ⟨e.block, e.off + 1, none⟩) he).trans h.c1, (hb.cell (p := ⟨e.block, e.off + 2, none⟩) he).trans h.c2, (hb.cell (p := ⟨e.block, e.off + 3, none⟩) he).trans h.c3, (hb.cell (p := ⟨e.block, e.off + 4, none⟩) he).trans h.c4, (hb.cell (p := ⟨e.block, e.off + 5, none⟩) he).trans h.c5, (hb.cell (p := ⟨e.block, e.off + 6, none⟩) he).trans h.c6, (hb.cell (p := ⟨e.block, e.off + 7, none⟩) he).trans h.c7, (hb.cell (p := ⟨e.block, e.off + 8, none⟩) he).trans h.c8, (hb.cell (p := ⟨e.block, e.off + 9, none⟩) he).trans h.c9, (hb.cell (p := ⟨e.block, e.off + 10, none⟩) he).trans h.c10, (hb.cell (p := ⟨e.block, e.off + 11, none⟩) he).trans h.c11, (hb.cell (p := ⟨e.block, e.off + 12, none⟩) he).trans h.c12⟩
/-- The numbers of a call's masks. -/
structure W8 (o : Oq) : Prop where
  f0 : (Lit.int .u64 o.f0).wf = true
  f1 : (Lit.int .u64 o.f1).wf = true
  f2 : (Lit.int .u64 o.f2).wf = true
  f3 : (Lit.int .u64 o.f3).wf = true
  m0 : (Lit.int .u64 o.m0).wf = true
  m1 : (Lit.int .u64 o.m1).wf = true
  m2 : (Lit.int .u64 o.m2).wf = true
  m3 : (Lit.int .u64 o.m3).wf = true
/-- A script. -/
structure Sq (w : World) (A : Option Addr) (n : Nat) (os : List Oq) : Prop where
  at_ : n = 0 ∨ ∃ ad, A = some ad ∧ ad.block < w.heap.size ∧ ∀ i o, os[i]? = some o → OqAt w (ad.add (i * 13)) o
  ok : ∀ o ∈ os, wf o.n
  okm : ∀ o ∈ os, W8 o
  len : os.length = n
  most : n ≤ maxLen
/-- The call at a place, and that it lies there whatever is made. -/
theorem Sq.still {w : World} {A : Option Addr} {n : Nat} {os : List Oq} (h : Sq w A n os) {i : Nat} (hi : i < n) : ∃ ad o, A = some ad ∧ wf o.n ∧ ad.block < w.heap.size ∧ ∀ V, Below w.heap.size w V → OqAt V (ad.add (i * 13)) o := by
  have hl := h.len
  have e := List.getElem?_eq_getElem (l := os) (i := i) (by omega)
  have hm : os[i] ∈ os := List.getElem_mem _
  rcases h.at_ with q | ⟨ad, q, h1, h2⟩
  · omega
  · exact ⟨ad, os[i], q, h.ok _ hm, h1, fun V hV => (h2 i _ e).next (by rw [block_add]; exact h1) hV⟩
theorem Sq.still8 {w : World} {A : Option Addr} {n : Nat} {os : List Oq} (h : Sq w A n os) {i : Nat} (hi : i < n) : ∃ ad o, A = some ad ∧ wf o.n ∧ W8 o ∧ ad.block < w.heap.size ∧ ∀ V, Below w.heap.size w V → OqAt V (ad.add (i * 13)) o := by
  have hl := h.len
  have e := List.getElem?_eq_getElem (l := os) (i := i) (by omega)
  have hm : os[i] ∈ os := List.getElem_mem _
  rcases h.at_ with q | ⟨ad, q, h1, h2⟩
  · omega
  · exact ⟨ad, os[i], q, h.ok _ hm, h.okm _ hm, h1, fun V hV => (h2 i _ e).next (by rw [block_add]; exact h1) hV⟩
section
variable {H : Type} {enc : TypeId × Value → H} {w : World}
theorem add_pos (a : Addr) {n : Nat} (h : n ≠ 0) : a.add n = ⟨a.block, a.off + n, none⟩ := by unfold Addr.add; simp [h]
theorem add0 (a : Addr) : a.add 0 = a := by unfold Addr.add; simp
theorem cellsW : Try.prog.cellsOf 37 = 7 := by kernel_rfl
theorem cellsO : Try.prog.cellsOf 39 = 13 := by kernel_rfl
theorem block_of' {w : World} {a : Addr} {v : Value} (h : w.cell? a = some v) : a.block < w.heap.size := by
  rcases Nat.lt_or_ge a.block w.heap.size with h2 | h2
  · exact h2
  · rw [World.cell?, Array.getElem?_eq_none h2] at h
    cases h
set_option maxRecDepth 100000 in
theorem list_of {α : Type} {Q : Nat → α → Prop} : ∀ (n : Nat), (∀ i, i < n → ∃ x : α, Q i x) → ∃ xs : List α, xs.length = n ∧ ∀ i x, xs[i]? = some x → Q i x
  | 0, _ => ⟨[], rfl, fun i x h => by simp at h⟩
  | n + 1, h => by
    obtain ⟨xs, hl, hx⟩ := list_of n fun i hi => h i (by omega)
    obtain ⟨y, hy⟩ := h n (by omega)
    refine ⟨xs ++ [y], by simp [hl], fun i x hi => ?_⟩
    rcases Nat.lt_or_ge i n with h1 | h1
    · rw [List.getElem?_append_left (by omega)] at hi
      exact hx i x hi
    · rw [List.getElem?_append_right (by omega)] at hi
      have e : i - xs.length = 0 := by
        rcases Nat.eq_zero_or_pos (i - xs.length) with e | e
        · exact e
        · rw [List.getElem?_eq_none (by simp; omega)] at hi
          cases hi
      rw [e] at hi
      cases hi
      have : i = n := by omega
      subst this
      exact hy
set_option maxRecDepth 100000 in
theorem open_bits_c {fuel : Nat} {cs : List Value} {y : DataW H × List MemPlace} (hf' : DataW.trod enc Try.prog w 0 (fun _ => true) true fuel 35 cs = some y) :
    ∃ a b c e : Int, cs = [.int .u64 a, .int .u64 b, .int .u64 c, .int .u64 e] ∧ (Lit.int .u64 a).wf = true ∧ (Lit.int .u64 b).wf = true ∧ (Lit.int .u64 c).wf = true ∧ (Lit.int .u64 e).wf = true := by
  obtain ⟨xs, n, _, hx, hcl, hlen, hg⟩ := DataW.trod_array Try.underlying35 hf'
  clear hf'
  rw [cells35] at hcl
  match cs, hcl with
  | [c0, c1, c2, c3], _ =>
    match xs, hlen with
    | [y0, y1, y2, y3], _ =>
      have g0 := hg 0 (by omega)
      have g1 := hg 1 (by omega)
      have g2 := hg 2 (by omega)
      have g3 := hg 3 (by omega)
      simp [cells33] at g0 g1 g2 g3
      obtain ⟨z0, e0, _, w0⟩ := DataW.trod_int Try.underlying33 g0
      obtain ⟨z1, e1, _, w1⟩ := DataW.trod_int Try.underlying33 g1
      obtain ⟨z2, e2, _, w2⟩ := DataW.trod_int Try.underlying33 g2
      obtain ⟨z3, e3, _, w3⟩ := DataW.trod_int Try.underlying33 g3
      simp only [List.cons.injEq, and_true] at e0 e1 e2 e3
      subst e0 e1 e2 e3
      exact ⟨_, _, _, _, rfl, w0, w1, w2, w3⟩
set_option maxRecDepth 100000 in
theorem open_wish_c {fuel : Nat} {cs : List Value} {y : DataW H × List MemPlace} (hf : DataW.trod enc Try.prog w 0 (fun _ => true) true fuel 37 cs = some y) :
    ∃ a b c e r pe ds : Int, cs = [.int .u64 a, .int .u64 b, .int .u64 c, .int .u64 e, .int .i64 r, .int .i64 pe, .int .i64 ds] ∧ (Lit.int .u64 a).wf = true ∧ (Lit.int .u64 b).wf = true ∧ (Lit.int .u64 c).wf = true ∧ (Lit.int .u64 e).wf = true := by
  obtain ⟨xs, n, _, hx, hcl, hlen, hg⟩ := DataW.trod_struct Try.underlying37 hf
  rw [cellsW] at hcl
  match cs, hcl with
  | [c0, c1, c2, c3, c4, c5, c6], _ =>
    match xs, hlen with
    | [y0, y1, y2, y3], _ =>
      have g0 := hg 0 _ rfl
      have g1 := hg 1 _ rfl
      have g2 := hg 2 _ rfl
      have g3 := hg 3 _ rfl
      simp [cells3, cells35] at g0 g1 g2 g3
      obtain ⟨a, b, c, e, e0, wb⟩ := open_bits_c g0
      obtain ⟨z1, e1, _, _⟩ := DataW.trod_int Try.underlying3 g1
      obtain ⟨z2, e2, _, _⟩ := DataW.trod_int Try.underlying3 g2
      obtain ⟨z3, e3, _, _⟩ := DataW.trod_int Try.underlying3 g3
      simp only [List.cons.injEq, and_true] at e0 e1 e2 e3
      obtain ⟨rfl, rfl, rfl, rfl⟩ := e0
      subst e1 e2 e3
      exact ⟨_, _, _, _, _, _, _, rfl, wb⟩
set_option maxRecDepth 100000 in
theorem open_op_c {fuel : Nat} {cs : List Value} {y : DataW H × List MemPlace} (hf : DataW.trod enc Try.prog w 0 (fun _ => true) true fuel 39 cs = some y) : ∃ o : Oq, cs = o.cs ∧ wf o.n ∧ W8 o := by
  obtain ⟨xs, n, _, hx, hcl, hlen, hg⟩ := DataW.trod_struct Try.underlying39 hf
  rw [cellsO] at hcl
  match cs, hcl with
  | [c0, c1, c2, c3, c4, c5, c6, c7, c8, c9, c10, c11, c12], _ =>
    match xs, hlen with
    | [y0, y1, y2, y3], _ =>
      have g0 := hg 0 _ rfl
      have g1 := hg 1 _ rfl
      have g2 := hg 2 _ rfl
      have g3 := hg 3 _ rfl
      simp [cells3, cells35, cellsW] at g0 g1 g2 g3
      obtain ⟨z0, e0, _, w0⟩ := DataW.trod_int Try.underlying3 g0
      obtain ⟨z1, e1, _, w1⟩ := DataW.trod_int Try.underlying3 g1
      obtain ⟨a, b, c, e, r, pe, ds, e2, x0, x1, x2, x3⟩ := open_wish_c g2
      obtain ⟨a', b', c', e', e3, y0, y1, y2, y3⟩ := open_bits_c g3
      simp only [List.cons.injEq, and_true] at e0 e1 e2 e3
      obtain ⟨rfl, rfl, rfl, rfl, rfl, rfl, rfl⟩ := e2
      obtain ⟨rfl, rfl, rfl, rfl⟩ := e3
      subst e0 e1
      exact ⟨⟨_, _, a, b, c, e, r, pe, ds, a', b', c', e'⟩, rfl, w1, ⟨x0, x1, x2, x3, y0, y1, y2, y3⟩⟩
set_option maxRecDepth 100000 in
theorem open_scr {r : Reach} {b0 : Nat} {v : Value} {d : DataW H} {p : List MemPlace} (hv : Value.okWide Try.prog w r b0 24 v) (h : DataW.Trod enc Try.prog w 0 (fun _ => true) true 24 v d p) :
    ∃ (A : Option Addr) (n cap : Nat) (os : List Oq), v = .slice A n cap ∧ Sq w A n os := by
  obtain ⟨a0, len0, cap0, rfl⟩ := okWide_slice Try.underlying24 hv
  obtain ⟨fuel, hf⟩ := h
  have hf' : DataW.trod enc Try.prog w 0 (fun _ => true) true fuel 24 [.slice a0 len0 cap0] = some (d, p) := hf
  rcases open_slice Try.underlying24 hf' with ⟨hcs, _⟩ | ⟨a, len, cap, m, n, D, Pl, hcs, _, hl, hc, hm, _, hel⟩
  · simp only [List.cons.injEq, and_true] at hcs
    rw [hcs]
    exact ⟨none, 0, 0, [], rfl, .inl rfl, (fun o ho => by cases ho), (fun o ho => by cases ho), rfl, Nat.zero_le _⟩
  · simp only [List.cons.injEq, and_true] at hcs
    rw [hcs]
    simp only [if_true] at hm
    subst hm
    have each : ∀ i, i < len → ∃ o : Oq, OqAt w (a.add (i * 13)) o ∧ wf o.n ∧ W8 o := by
      intro i hi
      obtain ⟨cs', h1, h2⟩ := hel i (by omega)
      rw [cellsO] at h1
      obtain ⟨o, rfl, hok⟩ := open_op_c h2
      have q := fun k (hk : k < 13) => (World.cells?_some h1).2.2 k hk
      have q0 := q 0 (by omega)
      have q1 := q 1 (by omega)
      have q2 := q 2 (by omega)
      have q3 := q 3 (by omega)
      have q4 := q 4 (by omega)
      have q5 := q 5 (by omega)
      have q6 := q 6 (by omega)
      have q7 := q 7 (by omega)
      have q8 := q 8 (by omega)
      have q9 := q 9 (by omega)
      have q10 := q 10 (by omega)
      have q11 := q 11 (by omega)
      have q12 := q 12 (by omega)
      rw [add_pos _ (by omega)] at q1 q2 q3 q4 q5 q6 q7 q8 q9 q10 q11 q12
      rw [add0] at q0
      exact ⟨o, ⟨q0, q1, q2, q3, q4, q5, q6, q7, q8, q9, q10, q11, q12⟩, hok⟩
    obtain ⟨os, h1, h2⟩ := list_of len each
    refine ⟨some a, len, _, os, rfl, ?_, fun o ho => ?_, fun o ho => ?_, h1, by omega⟩
    · rcases Nat.eq_zero_or_pos len with e | e
      · exact .inl e
      · refine .inr ⟨a, rfl, ?_, fun i o hi => (h2 i o hi).1⟩
        obtain ⟨o, ho, _⟩ := each 0 e
        have h0 := ho.c0
        rw [show a.add (0 * 13) = a from add0 a] at h0
        exact block_of' h0
    · obtain ⟨i, hi, e⟩ := List.getElem_of_mem ho
      exact (h2 i o (by rw [List.getElem?_eq_getElem hi, e])).2.1
    · obtain ⟨i, hi, e⟩ := List.getElem_of_mem ho
      exact (h2 i o (by rw [List.getElem?_eq_getElem hi, e])).2.2
end
end Go.Proofs.Ythmlibapjhmdbaa
