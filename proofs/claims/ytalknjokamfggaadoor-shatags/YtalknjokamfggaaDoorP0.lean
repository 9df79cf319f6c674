/- What a listed table gives the walks: both tables are there when the call begins. -/
import Derived.Test.YtalknjokamfggaaDoorW10
import Derived.ProofKit
import Derived.LaidMore
import Derived.OpenShut
import Derived.Stop.Joined
import Derived.Lib.LaidTab
import Derived.Deep.DeepHandedRow
import Derived.Test.YtalknjokamfggaaDoorCards
import Derived.Test.YtalknjokamfggaaDoorTie
namespace Go.Proofs.YtalknjokamfggaaDoor
open Go.ChangeShapes Go.WideShapes Go.ChangeAt Go.WideMaps Go.WideElems Go.RowKit

abbrev laid2 : List (String × DataW Unit) := [("roundhouse/sha.start", Rows.laid_roundhouse_sha_start), ("roundhouse/sha.roots", Rows.laid_roundhouse_sha_roots)]
theorem own : ownKnob Tryd.prog.godebug = none := by kernel_rfl
theorem gStart : Tryd.prog.globalNamed "roundhouse/sha.start" = some 0 := by kernel_rfl
theorem gRoots : Tryd.prog.globalNamed "roundhouse/sha.roots" = some 1 := by kernel_rfl
theorem tStart : (Tryd.prog.globals[0]?).map (·.type) = some 28 := by kernel_rfl
theorem tRoots : (Tryd.prog.globals[1]?).map (·.type) = some 45 := by kernel_rfl

theorem of_laid {W : World} (h : laidMetH Tryd.prog laid2 W) : Glob W := by
  rw [MakeChecks.laidMetH_plain _ _ _ (by kernel_rfl)] at h
  obtain ⟨ps, ⟨g0, t0, cs0, f0, p0, q0, hg0, ht0, hv0, hd0, ⟨g1, t1, cs1, f1, p1, q1, hg1, ht1, hv1, hd1, _, _⟩, _⟩, _, _⟩ := h
  obtain rfl := Option.some.inj (gStart.symm.trans hg0)
  obtain rfl := Option.some.inj (gRoots.symm.trans hg1)
  obtain rfl := Option.some.inj (tStart.symm.trans ht0)
  obtain rfl := Option.some.inj (tRoots.symm.trans ht1)
  have e0 := Lib.cells_of_tab (k := .u32) (zs := Sh.H0.map fun n : Nat => (n : Int)) Tryd.underlying28 Tryd.underlying27 (by kernel_rfl) (by kernel_rfl) hd0
  have e1 := Lib.cells_of_tab (k := .u32) (zs := Sh.KK.map fun n : Nat => (n : Int)) Tryd.underlying45 Tryd.underlying27 (by kernel_rfl) (by kernel_rfl) hd1
  have v0 : cs0 = vs .u32 Sh.H0 := by
    apply Array.toList_inj.1
    rw [e0]; simp [vs]
  have v1 : cs1 = vs .u32 Sh.KK := by
    apply Array.toList_inj.1
    rw [e1]; simp [vs]
  refine ⟨?_, fun i hi => ?_, ?_⟩
  · simp only [World.var?, hg0, Option.bind_some] at hv0
    split at hv0
    · rename_i cs t fr hh
      cases hv0
      exact ⟨t, fr, by rw [hh, v0]⟩
    · cases hv0
  · rw [World.var?_cell hg1 hv1 i, v1]
    exact vs_get .u32 Sh.KK i hi
  · simp only [World.var?, hg1, Option.bind_some] at hv1
    by_cases hlt : 1 < W.heap.size
    · exact hlt
    · have hn : W.heap[1]? = none := by simp; omega
      rw [hn] at hv1
      cases hv1

/-- The last step of each law's row: a law of two texts answers true, and of what was there nothing has turned. -/
theorem answer {H : Type} {enc : TypeId × Value → H} {f : Func} {sp : ChangeSpec} {W W' : World} {vals : List Value} {args : Array Value} {ds : List (DataW H)}
    (hargs0 : args.toList = vals) (hvars : sp.vars = []) (hres0 : f.resultTypes = #[4]) (hfn : (sp.fn H (ds ++ [])).results = [.lit (.bool true)]) (hfa : (sp.fn H (ds ++ [])).args = ds) (hfv : (sp.fn H (ds ++ [])).vars = [])
    (hW : DataW.Whole enc Tryd.prog f.params.toList sp.vars false W args.toList ds [] []) (hback : ∀ q : Nat → Bool, DataW.TrodAll enc Tryd.prog W' 0 q true f.params.toList vals ds []) (hb : Below W.heap.size W W') :
    sp.post enc Tryd.prog f false true false false W args (.bool true) W' := by
  have hr : ∀ (b : Nat) (q : Nat → Bool) (hd : Bool), DataW.TrodAll enc Tryd.prog W' b q hd f.resultTypes.toList ((Value.bool true).resultList f.resultTypes.size) (sp.fn H (ds ++ [])).results [] := by
    intro b q hd
    rw [hres0, hfn]
    exact trodAll_cons_mk (shut_bool Tryd.underlying4 _) trodAll_mk0
  have ha : ∀ q : Nat → Bool, DataW.TrodAll enc Tryd.prog W' 0 q true f.params.toList args.toList (sp.fn H (ds ++ [])).args [] := by
    intro q
    rw [hfa, hargs0]
    exact hback q
  have hv : ∀ q : Nat → Bool, DataW.TrodVars enc Tryd.prog W' q sp.vars (sp.fn H (ds ++ [])).vars [] := by
    intro q
    rw [hvars, hfv]
    rfl
  refine ⟨ds, [], [], [], [], [], hW, hr _ _ _, ha _, hv _, hb.frame _, fun h => by cases h⟩

/-- A block with other cells. -/
def relaid (cs : Array Value) : Obj → Obj
  | .cells _ t frozen => .cells cs t frozen
  | o => o
/-- A world for the witness: the program's own start, both tables as their initialisers lay them. -/
noncomputable def tabWorld (os : Os) : World :=
  { World.holding Tryd.prog os ⟨#[], #[], []⟩ with heap := ((World.holding Tryd.prog os ⟨#[], #[], []⟩).heap.modify 0 (relaid (vs .u32 Sh.H0))).modify 1 (relaid (vs .u32 Sh.KK)) }
theorem tabs_met2 (os : Os) : laidMet Tryd.prog laid2 ((tabWorld os).forCall (fun _ _ => 0) ⟨#[], #[.string ByteArray.empty, .string ByteArray.empty], []⟩).memory :=
  laidMet_of_run' 8 (by kernel_rfl) (by kernel_rfl)
theorem tabs_met1 (os : Os) : laidMet Tryd.prog laid2 ((tabWorld os).forCall (fun _ _ => 0) ⟨#[], #[.string ByteArray.empty], []⟩).memory :=
  laidMet_of_run' 8 (by kernel_rfl) (by kernel_rfl)

end Go.Proofs.YtalknjokamfggaaDoor
