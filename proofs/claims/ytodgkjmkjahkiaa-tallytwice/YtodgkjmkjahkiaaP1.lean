/- How a call, and a script of calls, is read. -/
import Derived.Test.YtodgkjmkjahkiaaP0
import Derived.Test.YtodgkjmkjahkiaaT9
namespace Go.Proofs.Ytodgkjmkjahkiaa
open Go.ChangeShapes Go.WideShapes Go.ChangeAt Go.WideMaps Go.WideElems Go.RowKit Go.Joins Go.Deep

section
variable {H : Type} {enc : TypeId × Value → H} {w : World}
theorem cells4 : Try.prog.cellsOf 4 = 1 := by kernel_rfl
theorem cells51 : Try.prog.cellsOf 51 = 4 := by kernel_rfl
set_option maxRecDepth 100000 in
theorem open_op_c {fuel : Nat} {cs : List Value} {y : DataW H × List MemPlace} (hf : DataW.trod enc Try.prog w 0 (fun _ => true) true fuel 51 cs = some y) : ∃ o : Op4, cs = o.cs.toList := by
  obtain ⟨xs, n, _, hx, hcl, hlen, hg⟩ := DataW.trod_struct Try.underlying51 hf
  rw [cells51] at hcl
  match cs, hcl with
  | [c0, c1, c2, c3], _ =>
    match xs, hlen with
    | [y0, y1, y2, y3], _ =>
      have g0 := hg 0 _ rfl
      have g1 := hg 1 _ rfl
      have g2 := hg 2 _ rfl
      have g3 := hg 3 _ rfl
      simp [cells3, cells4] at g0 g1 g2 g3
      obtain ⟨z0, e0, _⟩ := DataW.trod_bool Try.underlying4 g0
      obtain ⟨z1, e1, _, w1⟩ := DataW.trod_int Try.underlying3 g1
      obtain ⟨z2, e2, _⟩ := DataW.trod_bool Try.underlying4 g2
      obtain ⟨z3, e3, _, w3⟩ := DataW.trod_int Try.underlying3 g3
      simp only [List.cons.injEq, and_true] at e0 e1 e2 e3
      subst e0 e1 e2 e3
      exact ⟨⟨_, _, _, _⟩, rfl⟩
set_option maxRecDepth 100000 in
theorem open_opv {r : Reach} {b0 : Nat} {v : Value} {d : DataW H} {p : List MemPlace} (hv : Value.okWide Try.prog w r b0 51 v) (h : DataW.Trod enc Try.prog w 0 (fun _ => true) true 51 v d p) : ∃ o : Op4, v = .agg o.cs := by
  obtain ⟨cs, rfl, hsz⟩ := okWide_struct Try.underlying51 hv
  obtain ⟨cs⟩ := cs
  obtain ⟨fuel, hf⟩ := h
  have hf' : DataW.trod enc Try.prog w 0 (fun _ => true) true fuel 51 cs = some (d, p) := hf
  obtain ⟨o, rfl⟩ := open_op_c hf'
  exact ⟨o, rfl⟩
/-- A call at a place. -/
structure OpAt (w : World) (e : Addr) (o : Op4) : Prop where
  c0 : w.cell? e = some (.bool o.v)
  c1 : w.cell? ⟨e.block, e.off + 1, none⟩ = some (.int .i64 o.n)
  c2 : w.cell? ⟨e.block, e.off + 2, none⟩ = some (.bool o.y)
  c3 : w.cell? ⟨e.block, e.off + 3, none⟩ = some (.int .i64 o.c)
def opA (os : List Op4) (i : Nat) : Op4 := os.getD i ⟨false, 0, false, 0⟩
/-- A script. -/
structure Sc (w : World) (A : Option Addr) (n : Nat) (os : List Op4) : Prop where
  at_ : os = [] ∨ ∃ ad, A = some ad ∧ ad.block < w.heap.size ∧ ∀ i, i < os.length → OpAt w (ad.add (i * 4)) (opA os i)
  len : os.length = n
  most : n ≤ maxLen
set_option maxRecDepth 100000 in
theorem open_scr {r : Reach} {b0 : Nat} {v : Value} {d : DataW H} {p : List MemPlace} (hv : Value.okWide Try.prog w r b0 44 v) (h : DataW.Trod enc Try.prog w 0 (fun _ => true) true 44 v d p) :
    ∃ (A : Option Addr) (n cap : Nat) (os : List Op4), v = .slice A n cap ∧ Sc w A n os := by
  obtain ⟨a0, len0, cap0, rfl⟩ := okWide_slice Try.underlying44 hv
  obtain ⟨fuel, hf⟩ := h
  have hf' : DataW.trod enc Try.prog w 0 (fun _ => true) true fuel 44 [.slice a0 len0 cap0] = some (d, p) := hf
  rcases open_slice Try.underlying44 hf' with ⟨hcs, _⟩ | ⟨a, len, cap, m, n, D, Pl, hcs, _, hl, hc, hm, _, hel⟩
  · simp only [List.cons.injEq, and_true] at hcs
    rw [hcs]
    exact ⟨none, 0, 0, [], rfl, .inl rfl, rfl, Nat.zero_le _⟩
  · simp only [List.cons.injEq, and_true] at hcs
    rw [hcs]
    simp only [if_true] at hm
    subst hm
    have each : ∀ i, i < len → ∃ o : Op4, OpAt w (a.add (i * 4)) o := by
      intro i hi
      obtain ⟨cs', h1, h2⟩ := hel i (by omega)
      rw [cells51] at h1
      obtain ⟨o, rfl⟩ := open_op_c h2
      have q0 := (World.cells?_some h1).2.2 0 (by omega)
      have q1 := (World.cells?_some h1).2.2 1 (by omega)
      have q2 := (World.cells?_some h1).2.2 2 (by omega)
      have q3 := (World.cells?_some h1).2.2 3 (by omega)
      rw [add_pos _ (by omega)] at q1 q2 q3
      rw [add0] at q0
      exact ⟨o, q0, q1, q2, q3⟩
    obtain ⟨os, h1, h2⟩ := list_of len each
    refine ⟨some a, len, _, os, rfl, ?_, h1, by omega⟩
    rcases Nat.eq_zero_or_pos len with e | e
    · exact .inl (List.length_eq_zero_iff.1 (by omega))
    · refine .inr ⟨a, rfl, ?_, fun i hi => ?_⟩
      · obtain ⟨o, ho⟩ := each 0 e
        have h0 := ho.c0
        rw [show a.add (0 * 4) = a from add0 a] at h0
        exact block_of h0
      · refine h2 i _ ?_
        unfold opA
        rw [List.getD_eq_getElem?_getD, List.getElem?_eq_getElem hi]
        rfl
end
end Go.Proofs.Ytodgkjmkjahkiaa
