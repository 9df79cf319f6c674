/- What each law's row needs: the last step; how a mask and numbers are read. -/
import Derived.Test.YthmlibapjhmdbaaQ18
import Derived.ProofKit
import Derived.Lib.SmallJoins
import Derived.Laws.IdiomArrays
import Derived.Carry
import Derived.ChangeSlices
import Derived.Deep.Slices
import Derived.OpenShut
namespace Go.Proofs.Ythmlibapjhmdbaa
open Go.ChangeShapes Go.WideShapes Go.ChangeAt Go.WideMaps Go.WideElems Go.RowKit Go.Joins Go.Deep

/-- A number that an int holds. -/
abbrev wf (n : Int) : Prop := (Lit.int .i64 n).wf = true
theorem laidOut : laidOutB Try.prog = true := by kernel_rfl
theorem own : ownKnob Try.prog.godebug = none := by kernel_rfl
/-- Arguments that can be read, read behind the call as before: of what lay there nothing has turned. -/
theorem trodAll_below {H : Type} {enc : TypeId × Value → H} {P : Program} (hl : laidOutB P = true) {W W' : World} (hb : Below W.heap.size W W') :
    ∀ {ts : List TypeId} {vs : List Value} {ds : List (DataW H)} {ps : List MemPlace}, (ts.all fun t => P.readableRec t && decide (t < P.types.size)) = true →
      DataW.TrodAll enc P W 0 (fun _ => true) true ts vs ds ps → DataW.TrodAll enc P W' 0 (fun b => decide (b < W.heap.size)) true ts vs ds ps
  | [], [], [], _, _, h => h
  | [], _ :: _, _, _, _, h => h.elim
  | [], [], _ :: _, _, _, h => h.elim
  | _ :: _, [], _, _, _, h => h.elim
  | _ :: _, _ :: _, [], _, _, h => h.elim
  | t :: ts, v :: vs, d :: ds, ps, ht, h => by
    have hlt := h.lt
    obtain ⟨p, q, h1, h2, e⟩ := h
    simp only [List.all_cons, Bool.and_eq_true, decide_eq_true_eq] at ht
    refine ⟨p, q, Below.trod hl ht.1.1 ht.1.2 h1 hb (fun x hx => hlt x (by rw [e]; simp [hx])), trodAll_below hl hb ?_ h2, e⟩
    simpa using ht.2
set_option maxRecDepth 100000 in
theorem answerAll {H : Type} {enc : TypeId × Value → H} {f : Func} {sp : ChangeSpec} {W W' : World} {args : Array Value} {ds : List (DataW H)} {before : List MemPlace}
    (hvars : sp.vars = []) (hres0 : f.resultTypes = #[4]) (hfn : (sp.fn H (ds ++ [])).results = [.lit (.bool true)]) (hfa : (sp.fn H (ds ++ [])).args = ds) (hfv : (sp.fn H (ds ++ [])).vars = [])
    (hts : (f.params.toList.all fun t => Try.prog.readableRec t && decide (t < Try.prog.types.size)) = true)
    (hW : DataW.Whole enc Try.prog f.params.toList sp.vars false W args.toList ds [] before) (hb : Below W.heap.size W W') :
    sp.post enc Try.prog f false true false false W args (.bool true) W' := by
  have hW' := hW
  obtain ⟨p, q, hA, hV, e, _, _⟩ := hW'
  have hr : ∀ (b : Nat) (q : Nat → Bool) (hd : Bool), DataW.TrodAll enc Try.prog W' b q hd f.resultTypes.toList ((Value.bool true).resultList f.resultTypes.size) (sp.fn H (ds ++ [])).results [] := by
    intro b q hd
    rw [hres0, hfn]
    exact trodAll_cons_mk (shut_bool Try.underlying4 _) trodAll_mk0
  have ha : DataW.TrodAll enc Try.prog W' 0 (fun b => decide (b < W.heap.size)) true f.params.toList args.toList (sp.fn H (ds ++ [])).args p := by
    rw [hfa]
    exact trodAll_below laidOut hb hts hA
  have hv : ∀ q : Nat → Bool, DataW.TrodVars enc Try.prog W' q sp.vars (sp.fn H (ds ++ [])).vars [] := by
    intro q
    rw [hvars, hfv]
    rfl
  exact ⟨ds, [], before, [], p, [], hW, hr _ _ _, ha, hv _, hb.frame _, fun h => by cases h⟩


section
variable {H : Type} {enc : TypeId × Value → H} {w : World}
theorem cells3 : Try.prog.cellsOf 3 = 1 := by kernel_rfl
theorem cells33 : Try.prog.cellsOf 33 = 1 := by kernel_rfl
theorem cells35 : Try.prog.cellsOf 35 = 4 := by kernel_rfl
set_option maxRecDepth 100000 in
theorem open_bits {r : Reach} {b0 : Nat} {v : Value} {d : DataW H} {p : List MemPlace} (hv : Value.okWide Try.prog w r b0 35 v) (h : DataW.Trod enc Try.prog w 0 (fun _ => true) true 35 v d p) :
    ∃ a b c e : Int, v = .agg #[.int .u64 a, .int .u64 b, .int .u64 c, .int .u64 e] := by
  have hv' : ∃ cs, v = .agg cs := by
    simp only [Value.okWide, Try.underlying35] at hv
    obtain ⟨cs, h1, _⟩ := hv
    exact ⟨cs, h1⟩
  obtain ⟨cs, rfl⟩ := hv'
  obtain ⟨cs⟩ := cs
  obtain ⟨fuel, hf⟩ := h
  have hf' : DataW.trod enc Try.prog w 0 (fun _ => true) true fuel 35 cs = some (d, p) := hf
  obtain ⟨xs, n, _, hx, hcl, hlen, hg⟩ := DataW.trod_array Try.underlying35 hf'
  clear hf hf'
  rw [cells35] at hcl
  match cs, hcl with
  | [c0, c1, c2, c3], _ =>
    match xs, hlen with
    | [y0, y1, y2, y3], _ =>
      have g0 := hg 0 (by omega)
      have g1 := hg 1 (by omega)
      have g2 := hg 2 (by omega)
      have g3 := hg 3 (by omega)
      simp [cells33] at g0 g1 g2 g3
      obtain ⟨z0, e0, _, _⟩ := DataW.trod_int Try.underlying33 g0
      obtain ⟨z1, e1, _, _⟩ := DataW.trod_int Try.underlying33 g1
      obtain ⟨z2, e2, _, _⟩ := DataW.trod_int Try.underlying33 g2
      obtain ⟨z3, e3, _, _⟩ := DataW.trod_int Try.underlying33 g3
      simp only [List.cons.injEq, and_true] at e0 e1 e2 e3
      subst e0 e1 e2 e3
      exact ⟨_, _, _, _, rfl⟩
end
end Go.Proofs.Ythmlibapjhmdbaa
