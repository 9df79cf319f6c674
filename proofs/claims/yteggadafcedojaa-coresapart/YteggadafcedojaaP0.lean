/- What each law's row needs: the last step; how a layout is read. -/
import Derived.Test.YteggadafcedojaaW13
import Derived.ProofKit
import Derived.Lib.SmallJoins
import Derived.Laws.IdiomArrays
namespace Go.Proofs.Yteggadafcedojaa
open Go.ChangeShapes Go.WideShapes Go.ChangeAt Go.RowKit Go.Joins

theorem own : ownKnob Try.prog.godebug = none := by kernel_rfl

/-- The last step of each law's row: the law answers true, and of what was there nothing has turned. -/
theorem answer {H : Type} {enc : TypeId × Value → H} {f : Func} {sp : ChangeSpec} {W W' : World} {vals : List Value} {args : Array Value} {ds : List (DataW H)}
    (hargs0 : args.toList = vals) (hvars : sp.vars = []) (hres0 : f.resultTypes = #[4]) (hfn : (sp.fn H (ds ++ [])).results = [.lit (.bool true)]) (hfa : (sp.fn H (ds ++ [])).args = ds) (hfv : (sp.fn H (ds ++ [])).vars = [])
    (hW : DataW.Whole enc Try.prog f.params.toList sp.vars false W args.toList ds [] []) (hback : ∀ q : Nat → Bool, DataW.TrodAll enc Try.prog W' 0 q true f.params.toList vals ds []) (hb : Below W.heap.size W W') :
    sp.post enc Try.prog f false true false false W args (.bool true) W' := by
  have hr : ∀ (b : Nat) (q : Nat → Bool) (hd : Bool), DataW.TrodAll enc Try.prog W' b q hd f.resultTypes.toList ((Value.bool true).resultList f.resultTypes.size) (sp.fn H (ds ++ [])).results [] := by
    intro b q hd
    rw [hres0, hfn]
    exact trodAll_cons_mk (shut_bool Try.underlying4 _) trodAll_mk0
  have ha : ∀ q : Nat → Bool, DataW.TrodAll enc Try.prog W' 0 q true f.params.toList args.toList (sp.fn H (ds ++ [])).args [] := by
    intro q
    rw [hfa, hargs0]
    exact hback q
  have hv : ∀ q : Nat → Bool, DataW.TrodVars enc Try.prog W' q sp.vars (sp.fn H (ds ++ [])).vars [] := by
    intro q
    rw [hvars, hfv]
    rfl
  refine ⟨ds, [], [], [], [], [], hW, hr _ _ _, ha _, hv _, hb.frame _, fun h => by cases h⟩

/-- A layout, read. -/
theorem open_lay {H : Type} {enc : TypeId × Value → H} {w : World} {r : Reach} {b0 base : Nat} {spare : Nat → Bool} {held : Bool} {v : Value} {d : DataW H} {p : List MemPlace} (hv : Value.okWide Try.prog w r b0 23 v) (h : DataW.Trod enc Try.prog w base spare held 23 v d p) :
    ∃ s q : Int, v = .agg #[.int .i64 s, .int .i64 q] ∧ d = .agg [.lit (.int .i64 s), .lit (.int .i64 q)] ∧ p = [] ∧ (Lit.int .i64 s).wf = true ∧ (Lit.int .i64 q).wf = true := by
  obtain ⟨v0, v1, y0, y1, n, rfl, rfl, rfl, h0, h1⟩ := open_agg2 Try.underlying23 (by kernel_rfl) (by kernel_rfl) hv h
  obtain ⟨s, e0, rfl, ws⟩ := DataW.trod_int Try.underlying3 h0
  obtain ⟨q, e1, rfl, wq⟩ := DataW.trod_int Try.underlying3 h1
  simp only [List.cons.injEq, and_true] at e0 e1
  subst e0
  subst e1
  exact ⟨s, q, rfl, rfl, rfl, ws, wq⟩
theorem trod_i64 {H : Type} (enc : TypeId × Value → H) (w : World) (base : Nat) (spare : Nat → Bool) (held : Bool) {n : Int} (hw : (Lit.int .i64 n).wf = true) : ∃ k, DataW.trod enc Try.prog w base spare held k 3 [.int .i64 n] = some (.lit (.int .i64 n), []) := by
  obtain ⟨k, hk⟩ := shut_int (enc := enc) (w := w) (base := base) (spare := spare) (held := held) Try.underlying3 hw
  exact ⟨k, hk⟩
theorem shut_lay {H : Type} {enc : TypeId × Value → H} {w : World} {base : Nat} {spare : Nat → Bool} {held : Bool} {s q : Int} (ws : (Lit.int .i64 s).wf = true) (wq : (Lit.int .i64 q).wf = true) :
    DataW.Trod enc Try.prog w base spare held 23 (.agg #[.int .i64 s, .int .i64 q]) (.agg [.lit (.int .i64 s), .lit (.int .i64 q)]) [] :=
  shut_agg2 (y0 := (.lit (.int .i64 s), [])) (y1 := (.lit (.int .i64 q), [])) Try.underlying23 (by kernel_rfl) (by kernel_rfl) (trod_i64 enc w base spare held ws) (trod_i64 enc w base spare held wq)
end Go.Proofs.Yteggadafcedojaa
