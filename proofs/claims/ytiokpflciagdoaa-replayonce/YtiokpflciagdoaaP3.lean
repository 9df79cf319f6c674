/- How the arguments of ReplayBack and ReplayOnce are read. -/
import Derived.Test.YtiokpflciagdoaaP0
namespace Go.Proofs.Ytiokpflciagdoaa
open Go.ChangeShapes Go.WideShapes Go.ChangeAt Go.WideMaps Go.WideElems Go.RowKit Go.Joins Go.Deep

theorem cells22 : Try.prog.cellsOf 22 = 1 := by kernel_rfl
theorem cells50 : Try.prog.cellsOf 50 = 10 := by kernel_rfl
theorem cells44 : Try.prog.cellsOf 44 = 10 := by kernel_rfl
theorem open_back {H : Type} {enc : TypeId × Value → H} {w : World} {r : Reach} {b0 : Nat} {v : Value} {d : DataW H} {p : List MemPlace} (hv : Value.okWide Try.prog w r b0 50 v) (h : DataW.Trod enc Try.prog w 0 (fun _ => true) true 50 v d p) :
    ∃ (x : Cr) (ep now : Int) (A : Option Addr) (n cap : Nat) (os : List OpR), v = .agg #[.int .i64 x.j, .int .i64 x.e, .int .i64 x.s, .int .i64 x.f, .int .i64 x.u, .slice x.A x.n x.cap, .int .i64 x.c, .int .i64 ep, .int .i64 now, .slice A n cap] ∧ CrAt w x ∧ wf ep ∧ wf now ∧ os.length = n ∧ n ≤ maxLen ∧ ScriptAt w A os := by
  obtain ⟨cs, rfl, hsz⟩ := okWide_struct Try.underlying50 hv
  obtain ⟨l⟩ := cs
  obtain ⟨fuel, hf⟩ := h
  obtain ⟨xs, n, _, hx, hcl, hlen, hg⟩ := DataW.trod_struct Try.underlying50 hf
  match l, hsz.trans cells50 with
  | [c0, c1, c2, c3, c4, c5, c6, c7, c8, c9], _ =>
    match xs, hlen with
    | [y0, y1, y2, y3], _ =>
      have g0 := hg 0 _ rfl
      have g1 := hg 1 _ rfl
      have g2 := hg 2 _ rfl
      have g3 := hg 3 _ rfl
      simp [Value.cells, cells31, cells3, cells22] at g0 g1 g2 g3
      obtain ⟨x, e0, hx0⟩ := open_cells g0
      obtain ⟨ep, e1, _, we⟩ := DataW.trod_int Try.underlying3 g1
      obtain ⟨nw, e2, _, wn⟩ := DataW.trod_int Try.underlying3 g2
      obtain ⟨A, m, cap, os, rfl, h1, _, h3, h4⟩ := open_script g3
      simp only [List.cons.injEq, and_true, Cr.cs] at e0 e1 e2
      obtain ⟨rfl, rfl, rfl, rfl, rfl, rfl, rfl⟩ := e0
      subst e1 e2
      exact ⟨x, ep, nw, A, m, cap, os, rfl, hx0, we, wn, h1, h3, h4⟩
theorem open_once {H : Type} {enc : TypeId × Value → H} {w : World} {r : Reach} {b0 : Nat} {v : Value} {d : DataW H} {p : List MemPlace} (hv : Value.okWide Try.prog w r b0 44 v) (h : DataW.Trod enc Try.prog w 0 (fun _ => true) true 44 v d p) :
    ∃ (most : Int) (x : Cr) (now : Int) (A : Option Addr) (n cap : Nat) (os : List OpR), v = .agg #[.int .i64 most, .int .i64 x.j, .int .i64 x.e, .int .i64 x.s, .int .i64 x.f, .int .i64 x.u, .slice x.A x.n x.cap, .int .i64 x.c, .int .i64 now, .slice A n cap] ∧ CrAt w x ∧ wf now ∧ os.length = n ∧ n ≤ maxLen ∧ ScriptAt w A os := by
  obtain ⟨cs, rfl, hsz⟩ := okWide_struct Try.underlying44 hv
  obtain ⟨l⟩ := cs
  obtain ⟨fuel, hf⟩ := h
  obtain ⟨xs, n, _, hx, hcl, hlen, hg⟩ := DataW.trod_struct Try.underlying44 hf
  match l, hsz.trans cells44 with
  | [c0, c1, c2, c3, c4, c5, c6, c7, c8, c9], _ =>
    match xs, hlen with
    | [y0, y1, y2, y3], _ =>
      have g0 := hg 0 _ rfl
      have g1 := hg 1 _ rfl
      have g2 := hg 2 _ rfl
      have g3 := hg 3 _ rfl
      simp [Value.cells, cells31, cells3, cells22] at g0 g1 g2 g3
      obtain ⟨m0, e0, _, wm⟩ := DataW.trod_int Try.underlying3 g0
      obtain ⟨x, e1, hx0⟩ := open_cells g1
      obtain ⟨nw, e2, _, wn⟩ := DataW.trod_int Try.underlying3 g2
      obtain ⟨A, m, cap, os, rfl, h1, _, h3, h4⟩ := open_script g3
      simp only [List.cons.injEq, and_true, Cr.cs] at e0 e1 e2
      obtain ⟨rfl, rfl, rfl, rfl, rfl, rfl, rfl⟩ := e1
      subst e0 e2
      exact ⟨m0, x, nw, A, m, cap, os, rfl, hx0, wn, h1, h3, h4⟩
end Go.Proofs.Ytiokpflciagdoaa
