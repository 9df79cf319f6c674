/- How a script of calls is read. -/
import Derived.Test.YtjolkcomlindhaaP1
import Derived.Test.YtjolkcomlindhaaGG14xG15
namespace Go.Proofs.Ytjolkcomlindhaa
open Go.ChangeShapes Go.WideShapes Go.ChangeAt Go.WideMaps Go.WideElems Go.RowKit Go.Joins Go.Deep

/-- A call: its numbers, its task, where that task's cores lie. -/
structure Oq where
  d : Int
  pid : Int
  n : Int
  p0 : Int
  j : Int
  e : Int
  s : Int
  r : Int
  A : Option Addr
  len : Nat
  cap : Nat
  zs : List Int
  st : Int
  c : Int
abbrev Oq.cs (o : Oq) : List Value := [.int .i64 o.d, .int .i64 o.pid, .int .i64 o.n, .int .i64 o.p0, .int .i64 o.j, .int .i64 o.e, .int .i64 o.s, .int .i64 o.r, .slice o.A o.len o.cap, .int .i64 o.st, .int .i64 o.c]
/-- Its cores, and what its numbers may be. -/
structure OqOk (w : World) (o : Oq) : Prop where
  ints : IntsAt w o.A o.zs
  len : o.zs.length = o.len
  most : o.len ≤ maxLen
  wp : wf o.pid
  wn : wf o.n
  room : o.len ≤ o.cap
theorem OqOk.next {w w' : World} {o : Oq} (h : OqOk w o) (hb : Below w.heap.size w w') : OqOk w' o := ⟨h.ints.next hb, h.len, h.most, h.wp, h.wn, h.room⟩
/-- A call at a place. -/
structure OqAt (w : World) (e : Addr) (o : Oq) : Prop where
  c0 : w.cell? e = some (.int .i64 o.d)
  c1 : w.cell? ⟨e.block, e.off + 1, none⟩ = some (.int .i64 o.pid)
  c2 : w.cell? ⟨e.block, e.off + 2, none⟩ = some (.int .i64 o.n)
  c3 : w.cell? ⟨e.block, e.off + 3, none⟩ = some (.int .i64 o.p0)
  c4 : w.cell? ⟨e.block, e.off + 4, none⟩ = some (.int .i64 o.j)
  c5 : w.cell? ⟨e.block, e.off + 5, none⟩ = some (.int .i64 o.e)
  c6 : w.cell? ⟨e.block, e.off + 6, none⟩ = some (.int .i64 o.s)
  c7 : w.cell? ⟨e.block, e.off + 7, none⟩ = some (.int .i64 o.r)
  c8 : w.cell? ⟨e.block, e.off + 8, none⟩ = some (.slice o.A o.len o.cap)
  c9 : w.cell? ⟨e.block, e.off + 9, none⟩ = some (.int .i64 o.st)
  c10 : w.cell? ⟨e.block, e.off + 10, none⟩ = some (.int .i64 o.c)
theorem OqAt.next {w w' : World} {e : Addr} {o : Oq} (h : OqAt w e o) (he : e.block < w.heap.size) (hb : Below w.heap.size w w') : OqAt w' e o :=
  ⟨(hb.cell he).trans h.c0, (hb.cell (p := ⟨e.block, e.off + 1, none⟩) he).trans h.c1, (hb.cell (p := ⟨e.block, e.off + 2, none⟩) he).trans h.c2, (hb.cell (p := ⟨e.block, e.off + 3, none⟩) he).trans h.c3, (hb.cell (p := ⟨e.block, e.off + 4, none⟩) he).trans h.c4, (hb.cell (p := ⟨e.block, e.off + 5, none⟩) he).trans h.c5, (hb.cell (p := ⟨e.block, e.off + 6, none⟩) he).trans h.c6, (hb.cell (p := ⟨e.block, e.off + 7, none⟩) he).trans h.c7, (hb.cell (p := ⟨e.block, e.off + 8, none⟩) he).trans h.c8, (hb.cell (p := ⟨e.block, e.off + 9, none⟩) he).trans h.c9, (hb.cell (p := ⟨e.block, e.off + 10, none⟩) he).trans h.c10⟩
/-- A script. -/
structure Sq (w : World) (A : Option Addr) (n : Nat) (os : List Oq) : Prop where
  at_ : n = 0 ∨ ∃ ad, A = some ad ∧ ad.block < w.heap.size ∧ ∀ i o, os[i]? = some o → OqAt w (ad.add (i * 11)) o
  ok : ∀ o ∈ os, OqOk w o
  len : os.length = n
  most : n ≤ maxLen
theorem Sq.next {w w' : World} {A : Option Addr} {n : Nat} {os : List Oq} (h : Sq w A n os) (hb : Below w.heap.size w w') : Sq w' A n os := by
  refine ⟨?_, fun o ho => (h.ok o ho).next hb, h.len, h.most⟩
  rcases h.at_ with e | ⟨ad, e, h1, h2⟩
  · exact .inl e
  · exact .inr ⟨ad, e, Nat.lt_of_lt_of_le h1 hb.size, fun i o hi => (h2 i o hi).next (by rw [block_add]; exact h1) hb⟩
/-- The call at a place, and that it lies there whatever is made. -/
theorem Sq.still {w : World} {A : Option Addr} {n : Nat} {os : List Oq} (h : Sq w A n os) {i : Nat} (hi : i < n) : ∃ ad o, A = some ad ∧ o ∈ os ∧ ad.block < w.heap.size ∧ ∀ V, Below w.heap.size w V → OqAt V (ad.add (i * 11)) o ∧ OqOk V o := by
  have hl := h.len
  have e := List.getElem?_eq_getElem (l := os) (i := i) (by omega)
  have hm : os[i] ∈ os := List.getElem_mem _
  rcases h.at_ with q | ⟨ad, q, h1, h2⟩
  · omega
  · exact ⟨ad, os[i], q, hm, h1, fun V hV => ⟨(h2 i _ e).next (by rw [block_add]; exact h1) hV, (h.ok _ hm).next hV⟩⟩
section
variable {H : Type} {enc : TypeId × Value → H} {w : World}
theorem add0 (a : Addr) : a.add 0 = a := by unfold Addr.add; simp
theorem cells61 : Try.prog.cellsOf 61 = 8 := by kernel_rfl
theorem cells45 : Try.prog.cellsOf 45 = 1 := by kernel_rfl
theorem block_of' {w : World} {a : Addr} {v : Value} (h : w.cell? a = some v) : a.block < w.heap.size := by
  rcases Nat.lt_or_ge a.block w.heap.size with h2 | h2
  · exact h2
  · rw [World.cell?, Array.getElem?_eq_none h2] at h
    cases h
theorem open_ilist {fuel : Nat} {v : Value} {y : DataW H × List MemPlace} (hf : DataW.trod enc Try.prog w 0 (fun _ => true) true fuel 45 [v] = some y) :
    ∃ (A : Option Addr) (n cap : Nat) (zs : List Int), v = .slice A n cap ∧ zs.length = n ∧ n ≤ cap ∧ n ≤ maxLen ∧ IntsAt w A zs := by
  rcases open_ints Try.underlying45 Try.underlying3 (by kernel_rfl) hf with ⟨hcs, hx⟩ | ⟨a, len, cap, zs, hcs, _, hl, hm, hz, hx, hcell, hwz⟩
  · simp only [List.cons.injEq, and_true] at hcs
    subst hcs
    exact ⟨none, 0, 0, [], rfl, rfl, Nat.le_refl _, Nat.zero_le _, .inl rfl⟩
  · simp only [List.cons.injEq, and_true] at hcs
    subst hcs
    simp only [if_true] at hz
    refine ⟨some a, len, cap, zs.take len, rfl, by rw [List.length_take]; omega, hl, by omega, ?_⟩
    rcases Nat.eq_zero_or_pos len with e | e
    · exact .inl (by rw [e]; rfl)
    · refine .inr ⟨a, rfl, ?_, fun j hj => ?_⟩
      · have h0 := hcell 0 (by omega)
        rw [show a.add 0 = a from by unfold Addr.add; simp] at h0
        exact block_of' h0
      · rw [List.length_take] at hj
        rw [hcell j (by omega)]
        have e2 : (zs.take len).getD j 0 = zs.getD j 0 := by simp [List.getD, (by omega : j < len)]
        rw [e2]
set_option maxRecDepth 100000 in
theorem open_task_c {fuel : Nat} {cs : List Value} {y : DataW H × List MemPlace} (hf : DataW.trod enc Try.prog w 0 (fun _ => true) true fuel 61 cs = some y) :
    ∃ (p j e s r st c : Int) (A : Option Addr) (n cap : Nat) (zs : List Int), cs = [.int .i64 p, .int .i64 j, .int .i64 e, .int .i64 s, .int .i64 r, .slice A n cap, .int .i64 st, .int .i64 c] ∧ zs.length = n ∧ n ≤ maxLen ∧ IntsAt w A zs ∧ n ≤ cap := by
  obtain ⟨xs, n, _, hx, hcl, hlen, hg⟩ := DataW.trod_struct Try.underlying61 hf
  rw [cells61] at hcl
  match cs, hcl with
  | [c0, c1, c2, c3, c4, c5, c6, c7], _ =>
    match xs, hlen with
    | [y0, y1, y2, y3, y4, y5, y6, y7], _ =>
      have g0 := hg 0 _ rfl
      have g1 := hg 1 _ rfl
      have g2 := hg 2 _ rfl
      have g3 := hg 3 _ rfl
      have g4 := hg 4 _ rfl
      have g5 := hg 5 _ rfl
      have g6 := hg 6 _ rfl
      have g7 := hg 7 _ rfl
      simp [cells3, cells45] at g0 g1 g2 g3 g4 g5 g6 g7
      obtain ⟨z0, e0, _, w0⟩ := DataW.trod_int Try.underlying3 g0
      obtain ⟨z1, e1, _, w1⟩ := DataW.trod_int Try.underlying3 g1
      obtain ⟨z2, e2, _, w2⟩ := DataW.trod_int Try.underlying3 g2
      obtain ⟨z3, e3, _, w3⟩ := DataW.trod_int Try.underlying3 g3
      obtain ⟨z4, e4, _, w4⟩ := DataW.trod_int Try.underlying3 g4
      obtain ⟨z6, e6, _, w6⟩ := DataW.trod_int Try.underlying3 g6
      obtain ⟨z7, e7, _, w7⟩ := DataW.trod_int Try.underlying3 g7
      simp only [List.cons.injEq, and_true] at e0 e1 e2 e3 e4 e6 e7
      subst e0 e1 e2 e3 e4 e6 e7
      obtain ⟨A, n, cap, zs, rfl, hl, hr, hm, hi⟩ := open_ilist g5
      exact ⟨_, _, _, _, _, _, _, A, n, cap, zs, rfl, hl, hm, hi, hr⟩
set_option maxRecDepth 100000 in
theorem open_op_c {fuel : Nat} {cs : List Value} {y : DataW H × List MemPlace} (hf : DataW.trod enc Try.prog w 0 (fun _ => true) true fuel 63 cs = some y) : ∃ o : Oq, cs = o.cs ∧ OqOk w o := by
  obtain ⟨xs, n, _, hx, hcl, hlen, hg⟩ := DataW.trod_struct Try.underlying63 hf
  rw [cells63] at hcl
  match cs, hcl with
  | [c0, c1, c2, c3, c4, c5, c6, c7, c8, c9, c10], _ =>
    match xs, hlen with
    | [y0, y1, y2, y3], _ =>
      have g0 := hg 0 _ rfl
      have g1 := hg 1 _ rfl
      have g2 := hg 2 _ rfl
      have g3 := hg 3 _ rfl
      simp [cells3, cells61] at g0 g1 g2 g3
      obtain ⟨z0, e0, _, w0⟩ := DataW.trod_int Try.underlying3 g0
      obtain ⟨z1, e1, _, w1⟩ := DataW.trod_int Try.underlying3 g1
      obtain ⟨z2, e2, _, w2⟩ := DataW.trod_int Try.underlying3 g2
      obtain ⟨p, j, e, s, r, st, c, A, n, cap, zs, e3, hl, hm, hi, hr⟩ := open_task_c g3
      simp only [List.cons.injEq, and_true] at e0 e1 e2 e3
      obtain ⟨rfl, rfl, rfl, rfl, rfl, rfl, rfl, rfl⟩ := e3
      subst e0 e1 e2
      exact ⟨⟨_, _, _, p, j, e, s, r, A, n, cap, zs, st, c⟩, rfl, hi, hl, hm, w1, w2, hr⟩
set_option maxRecDepth 100000 in
theorem open_scr {r : Reach} {b0 : Nat} {v : Value} {d : DataW H} {p : List MemPlace} (hv : Value.okWide Try.prog w r b0 51 v) (h : DataW.Trod enc Try.prog w 0 (fun _ => true) true 51 v d p) :
    ∃ (A : Option Addr) (n cap : Nat) (os : List Oq), v = .slice A n cap ∧ Sq w A n os := by
  obtain ⟨a0, len0, cap0, rfl⟩ := okWide_slice Try.underlying51 hv
  obtain ⟨fuel, hf⟩ := h
  have hf' : DataW.trod enc Try.prog w 0 (fun _ => true) true fuel 51 [.slice a0 len0 cap0] = some (d, p) := hf
  rcases open_slice Try.underlying51 hf' with ⟨hcs, _⟩ | ⟨a, len, cap, m, n, D, Pl, hcs, _, hl, hc, hm, _, hel⟩
  · simp only [List.cons.injEq, and_true] at hcs
    rw [hcs]
    exact ⟨none, 0, 0, [], rfl, .inl rfl, (fun o ho => by cases ho), rfl, Nat.zero_le _⟩
  · simp only [List.cons.injEq, and_true] at hcs
    rw [hcs]
    simp only [if_true] at hm
    subst hm
    have each : ∀ i, i < len → ∃ o : Oq, OqAt w (a.add (i * 11)) o ∧ OqOk w o := by
      intro i hi
      obtain ⟨cs', h1, h2⟩ := hel i (by omega)
      rw [cells63] at h1
      obtain ⟨o, rfl, hok⟩ := open_op_c h2
      have q := fun k (hk : k < 11) => (World.cells?_some h1).2.2 k hk
      have q0 := q 0 (by omega)
      have q1 := q 1 (by omega)
      have q2 := q 2 (by omega)
      have q3 := q 3 (by omega)
      have q4 := q 4 (by omega)
      have q5 := q 5 (by omega)
      have q6 := q 6 (by omega)
      have q7 := q 7 (by omega)
      have q8 := q 8 (by omega)
      have q9 := q 9 (by omega)
      have q10 := q 10 (by omega)
      rw [add_pos _ (by omega)] at q1 q2 q3 q4 q5 q6 q7 q8 q9 q10
      rw [add0] at q0
      exact ⟨o, ⟨q0, q1, q2, q3, q4, q5, q6, q7, q8, q9, q10⟩, hok⟩
    obtain ⟨os, h1, h2⟩ := list_of len each
    refine ⟨some a, len, _, os, rfl, ?_, fun o ho => ?_, h1, by omega⟩
    · rcases Nat.eq_zero_or_pos len with e | e
      · exact .inl e
      · refine .inr ⟨a, rfl, ?_, fun i o hi => (h2 i o hi).1⟩
        obtain ⟨o, ho, _⟩ := each 0 e
        have h0 := ho.c0
        rw [show a.add (0 * 11) = a from add0 a] at h0
        exact block_of' h0
    · obtain ⟨i, hi, e⟩ := List.getElem_of_mem ho
      exact (h2 i o (by rw [List.getElem?_eq_getElem hi, e])).2
end
end Go.Proofs.Ytjolkcomlindhaa
