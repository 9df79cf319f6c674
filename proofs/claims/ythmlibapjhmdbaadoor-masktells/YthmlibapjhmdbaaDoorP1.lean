/- The last step of a row whose arguments hold memory. -/
import Derived.Test.YthmlibapjhmdbaaDoorP0
import Derived.Test.YthmlibapjhmdbaaDoorR5
import Derived.Carry
import Derived.ChangeSlices
namespace Go.Proofs.YthmlibapjhmdbaaDoor
open Go.ChangeShapes Go.WideShapes Go.ChangeAt Go.WideMaps Go.WideElems Go.RowKit

theorem laidOut : laidOutB Tryd.prog = true := by kernel_rfl
/-- Arguments that can be read, read behind the call as before: of what lay there nothing has turned. -/
theorem trodAll_below {H : Type} {enc : TypeId × Value → H} {P : Program} (hl : laidOutB P = true) {W W' : World} (hb : Below W.heap.size W W') :
    ∀ {ts : List TypeId} {vs : List Value} {ds : List (DataW H)} {ps : List MemPlace}, (ts.all fun t => P.readableRec t && decide (t < P.types.size)) = true →
      DataW.TrodAll enc P W 0 (fun _ => true) true ts vs ds ps → DataW.TrodAll enc P W' 0 (fun b => decide (b < W.heap.size)) true ts vs ds ps
  | [], [], [], _, _, h => h
  | [], _ :: _, _, _, _, h => h.elim
  | [], [], _ :: _, _, _, h => h.elim
  | _ :: _, [], _, _, _, h => h.elim
  | _ :: _, _ :: _, [], _, _, h => h.elim
  | t :: ts, v :: vs, d :: ds, ps, ht, h => by
    have hlt := h.lt
    obtain ⟨p, q, h1, h2, e⟩ := h
    simp only [List.all_cons, Bool.and_eq_true, decide_eq_true_eq] at ht
    refine ⟨p, q, Below.trod hl ht.1.1 ht.1.2 h1 hb (fun x hx => hlt x (by rw [e]; simp [hx])), trodAll_below hl hb ?_ h2, e⟩
    simpa using ht.2
set_option maxRecDepth 100000 in
theorem answerAll {H : Type} {enc : TypeId × Value → H} {f : Func} {sp : ChangeSpec} {W W' : World} {args : Array Value} {ds : List (DataW H)} {before : List MemPlace}
    (hvars : sp.vars = []) (hres0 : f.resultTypes = #[4]) (hfn : (sp.fn H (ds ++ [])).results = [.lit (.bool true)]) (hfa : (sp.fn H (ds ++ [])).args = ds) (hfv : (sp.fn H (ds ++ [])).vars = [])
    (hts : (f.params.toList.all fun t => Tryd.prog.readableRec t && decide (t < Tryd.prog.types.size)) = true)
    (hW : DataW.Whole enc Tryd.prog f.params.toList sp.vars false W args.toList ds [] before) (hb : Below W.heap.size W W') :
    sp.post enc Tryd.prog f false true false false W args (.bool true) W' := by
  have hW' := hW
  obtain ⟨p, q, hA, hV, e, _, _⟩ := hW'
  have hr : ∀ (b : Nat) (q : Nat → Bool) (hd : Bool), DataW.TrodAll enc Tryd.prog W' b q hd f.resultTypes.toList ((Value.bool true).resultList f.resultTypes.size) (sp.fn H (ds ++ [])).results [] := by
    intro b q hd
    rw [hres0, hfn]
    exact trodAll_cons_mk (shut_bool Tryd.underlying4 _) trodAll_mk0
  have ha : DataW.TrodAll enc Tryd.prog W' 0 (fun b => decide (b < W.heap.size)) true f.params.toList args.toList (sp.fn H (ds ++ [])).args p := by
    rw [hfa]
    exact trodAll_below laidOut hb hts hA
  have hv : ∀ q : Nat → Bool, DataW.TrodVars enc Tryd.prog W' q sp.vars (sp.fn H (ds ++ [])).vars [] := by
    intro q
    rw [hvars, hfv]
    rfl
  exact ⟨ds, [], before, [], p, [], hW, hr _ _ _, ha, hv _, hb.frame _, fun h => by cases h⟩

set_option maxRecDepth 100000 in
/-- A slice of ints that was handed in, as its numbers. -/
theorem open_list {H : Type} {enc : TypeId × Value → H} {w : World} {r : Reach} {b0 : Nat} {v : Value} {d : DataW H} {p : List MemPlace} (hv : Value.okWide Tryd.prog w r b0 25 v) (h : DataW.Trod enc Tryd.prog w 0 (fun _ => true) true 25 v d p) :
    ∃ (A : Option Addr) (n cap : Nat) (zs : List Int), v = .slice A n cap ∧ zs.length = n ∧ n ≤ cap ∧ n ≤ maxLen ∧ IntsAt w w.heap.size A zs := by
  obtain ⟨a0, len, cap, rfl⟩ := okWide_slice Tryd.underlying25 hv
  obtain ⟨fuel, hf⟩ := h
  rcases open_ints Tryd.underlying25 Tryd.underlying3 (by kernel_rfl) hf with ⟨hcs, hx⟩ | ⟨a, len', cap', zs, hcs, _, hl, hm, hz, hx, hcell, hwz⟩
  · simp [Value.cells] at hcs
    obtain ⟨rfl, rfl, rfl⟩ := hcs
    exact ⟨none, 0, 0, [], rfl, rfl, Nat.le_refl _, Nat.zero_le _, .inl rfl⟩
  · simp [Value.cells] at hcs
    obtain ⟨rfl, rfl, rfl⟩ := hcs
    simp only [if_true] at hz
    refine ⟨some a, len, cap, zs.take len, rfl, by rw [List.length_take]; omega, hl, by omega, ?_⟩
    rcases Nat.eq_zero_or_pos len with e | e
    · exact .inl (by rw [e]; rfl)
    · refine .inr ⟨a, rfl, ?_, fun j hj => ?_⟩
      · have h0 := hcell 0 (by omega)
        rw [add_none] at h0
        rcases Nat.lt_or_ge a.block w.heap.size with h2 | h2
        · exact h2
        · rw [World.cell?, Array.getElem?_eq_none h2] at h0
          cases h0
      · rw [List.length_take] at hj
        rw [hcell j (by omega)]
        have e2 : (zs.take len).getD j 0 = zs.getD j 0 := by simp [List.getD, (by omega : j < len)]
        rw [e2]
end Go.Proofs.YthmlibapjhmdbaaDoor
