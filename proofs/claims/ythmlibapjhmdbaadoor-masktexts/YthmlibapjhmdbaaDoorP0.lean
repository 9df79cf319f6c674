/- What the listed variables give the walks; how a mask is read; the last step of each row. -/
import Derived.Test.YthmlibapjhmdbaaDoorW24
import Derived.ProofKit
import Derived.LaidMore
import Derived.OpenShut
import Derived.Stop.Joined
import Derived.Lib.LaidTab
import Derived.Lib.SmallJoins
import Derived.Deep.DeepHandedRow
import Derived.Test.YthmlibapjhmdbaaDoorCards
import Derived.Test.YthmlibapjhmdbaaDoorTie
namespace Go.Proofs.YthmlibapjhmdbaaDoor
open Go.ChangeShapes Go.WideShapes Go.ChangeAt Go.WideMaps Go.WideElems Go.RowKit

abbrev laid5 : List (String × DataW Unit) := [("math/bits.deBruijn32tab", Rows.laid_math_bits_deBruijn32tab), ("math/bits.deBruijn64tab", Rows.laid_math_bits_deBruijn64tab), ("internal/strconv.uint64pow10", Rows.laid_internal_strconv_uint64pow10), ("strconv.ErrRange", Rows.laid_strconv_ErrRange), ("strconv.ErrSyntax", Rows.laid_strconv_ErrSyntax)]
theorem own : ownKnob Tryd.prog.godebug = none := by kernel_rfl
theorem gvDeb : Tryd.prog.globalNamed "math/bits.deBruijn64tab" = some 0 := by kernel_rfl
theorem gvPow : Tryd.prog.globalNamed "internal/strconv.uint64pow10" = some 4 := by kernel_rfl
theorem gvRng : Tryd.prog.globalNamed "strconv.ErrRange" = some 3 := by kernel_rfl
theorem gvSyn : Tryd.prog.globalNamed "strconv.ErrSyntax" = some 2 := by kernel_rfl
theorem gvD32 : Tryd.prog.globalNamed "math/bits.deBruijn32tab" = some 5 := by kernel_rfl

theorem iface_of_trod {H : Type} {enc : TypeId × Value → H} {P : Program} {w : World} {base : Nat} {sp : Nat → Bool} {held : Bool} {fuel : Nat} {t : TypeId} {ms : Array (String × TypeId)} {cs : List Value} {n : String} {d : DataW H} {p : List MemPlace}
    (ht : P.underlying t = some (.interface ms)) (h : DataW.trod enc P w base sp held fuel t cs = some (.iface n d, p)) : ∃ u v, cs = [.iface u v] := by
  match fuel, h with
  | 0, h => simp [DataW.trod] at h
  | fuel + 1, h =>
    unfold DataW.trod at h
    rw [ht] at h
    split at h <;> simp_all

theorem of_laid {W : World} (h : laidMetH Tryd.prog laid5 W) (hS : W.ShapedOpen Tryd.prog) : Glob W := by
  rw [MakeChecks.laidMetH_plain _ _ _ (by kernel_rfl)] at h
  obtain ⟨ps, ⟨g0, t0, cs0, f0, p0, q0, hg0, ht0, hv0, hd0, ⟨g1, t1, cs1, f1, p1, q1, hg1, ht1, hv1, hd1, ⟨g2, t2, cs2, f2, p2, q2, hg2, ht2, hv2, hd2, ⟨g3, t3, cs3, f3, p3, q3, hg3, ht3, hv3, hd3, ⟨g4, t4, cs4, f4, p4, q4, hg4, ht4, hv4, hd4, _, _⟩, _⟩, _⟩, _⟩, _⟩, _, _⟩ := h
  obtain rfl := Option.some.inj (gvD32.symm.trans hg0)
  obtain rfl := Option.some.inj (gvDeb.symm.trans hg1)
  obtain rfl := Option.some.inj (gvPow.symm.trans hg2)
  obtain rfl := Option.some.inj (gvRng.symm.trans hg3)
  obtain rfl := Option.some.inj (gvSyn.symm.trans hg4)
  obtain rfl := Option.some.inj ((show (Tryd.prog.globals[0]?).map (·.type) = some 73 by kernel_rfl).symm.trans ht1)
  obtain rfl := Option.some.inj ((show (Tryd.prog.globals[4]?).map (·.type) = some 102 by kernel_rfl).symm.trans ht2)
  obtain rfl := Option.some.inj ((show (Tryd.prog.globals[3]?).map (·.type) = some 76 by kernel_rfl).symm.trans ht3)
  obtain rfl := Option.some.inj ((show (Tryd.prog.globals[2]?).map (·.type) = some 76 by kernel_rfl).symm.trans ht4)
  have e1 := Lib.cells_of_tab (k := .u8) (zs := Mk.deb.map fun n : Nat => (n : Int)) Tryd.underlying73 Tryd.underlying5 (by kernel_rfl) (by kernel_rfl) hd1
  have e2 := Lib.cells_of_tab (k := .u64) (zs := Lib.pow10Tab) Tryd.underlying102 Tryd.underlying22 (by kernel_rfl) (by kernel_rfl) hd2
  obtain ⟨u3, y3, e3⟩ := iface_of_trod Tryd.underlying76 hd3
  obtain ⟨u4, y4, e4⟩ := iface_of_trod Tryd.underlying76 hd4
  have v1 : cs1 = vs .u8 Mk.deb := by
    apply Array.toList_inj.1
    rw [e1]; simp [vs]
  have v2 : cs2 = (Lib.pow10Tab.map fun z => Value.int .u64 z).toArray := by
    apply Array.toList_inj.1
    rw [e2]
  have v3 : cs3 = #[.iface u3 y3] := by
    apply Array.toList_inj.1
    rw [e3]
  have v4 : cs4 = #[.iface u4 y4] := by
    apply Array.toList_inj.1
    rw [e4]
  refine ⟨fun i hi => ?_, ?_, ⟨u4, y4, ?_⟩, ⟨u3, y3, ?_⟩, ?_, ?_⟩
  · rw [World.var?_cell hg1 hv1 i, v1]
    exact vs_get .u8 Mk.deb i hi
  · exact Go.Proofs.cell_of_shapedOpen_int (zero := #[.int .i64 0]) (t := 3) hS (of_decide_eq_true (by kernel_rfl)) (by kernel_rfl) rfl (by kernel_rfl) (by kernel_rfl) Tryd.underlying3
  · rw [World.var?_cell hg4 hv4 0, v4]; rfl
  · rw [World.var?_cell hg3 hv3 0, v3]; rfl
  · simp only [World.var?, hg2, Option.bind_some] at hv2
    split at hv2
    · rename_i cs t fr hh
      cases hv2
      exact ⟨t, fr, by rw [hh, v2]⟩
    · cases hv2
  · simp only [World.var?, hg0, Option.bind_some] at hv0
    by_cases hlt : 5 < W.heap.size
    · exact hlt
    · have hn : W.heap[5]? = none := by simp; omega
      rw [hn] at hv0
      cases hv0

theorem door_met (os : Os) (args : Array Value) : laidMetH Tryd.prog laid5 ((World.doorLaid Tryd.prog 62 os).forCall (fun _ _ => 0) ⟨#[], args, []⟩).memory :=
  laidMetH_of_parts3 (fuel := 8) (laidMet_of_run' 8 (by kernel_rfl) (by kernel_rfl)) (by kernel_rfl) (by kernel_rfl)

/-- The last step of each law's row: a law of two texts answers true, and of what was there nothing has turned. -/
theorem answer {H : Type} {enc : TypeId × Value → H} {f : Func} {sp : ChangeSpec} {W W' : World} {vals : List Value} {args : Array Value} {ds : List (DataW H)}
    (hargs0 : args.toList = vals) (hvars : sp.vars = []) (hres0 : f.resultTypes = #[4]) (hfn : (sp.fn H (ds ++ [])).results = [.lit (.bool true)]) (hfa : (sp.fn H (ds ++ [])).args = ds) (hfv : (sp.fn H (ds ++ [])).vars = [])
    (hW : DataW.Whole enc Tryd.prog f.params.toList sp.vars false W args.toList ds [] []) (hback : ∀ q : Nat → Bool, DataW.TrodAll enc Tryd.prog W' 0 q true f.params.toList vals ds []) (hb : Below W.heap.size W W') :
    sp.post enc Tryd.prog f false true false false W args (.bool true) W' := by
  have hr : ∀ (b : Nat) (q : Nat → Bool) (hd : Bool), DataW.TrodAll enc Tryd.prog W' b q hd f.resultTypes.toList ((Value.bool true).resultList f.resultTypes.size) (sp.fn H (ds ++ [])).results [] := by
    intro b q hd
    rw [hres0, hfn]
    exact trodAll_cons_mk (shut_bool Tryd.underlying4 _) trodAll_mk0
  have ha : ∀ q : Nat → Bool, DataW.TrodAll enc Tryd.prog W' 0 q true f.params.toList args.toList (sp.fn H (ds ++ [])).args [] := by
    intro q
    rw [hfa, hargs0]
    exact hback q
  have hv : ∀ q : Nat → Bool, DataW.TrodVars enc Tryd.prog W' q sp.vars (sp.fn H (ds ++ [])).vars [] := by
    intro q
    rw [hvars, hfv]
    rfl
  refine ⟨ds, [], [], [], [], [], hW, hr _ _ _, ha _, hv _, hb.frame _, fun h => by cases h⟩

section
variable {H : Type} {enc : TypeId × Value → H} {w : World} {base : Nat} {spare : Nat → Bool} {held : Bool}

theorem u64_of_wf {n : Int} (h : (Lit.int .u64 n).wf = true) : ∃ m : Nat, n = m ∧ m < 2 ^ 64 := by
  have h2 : IntKind.u64.min ≤ n ∧ n ≤ IntKind.u64.max := by simpa [Lit.wf] using h
  have h3 : IntKind.u64.min = 0 := by decide
  have h4 : IntKind.u64.max = 18446744073709551615 := by decide
  rw [h3, h4] at h2
  obtain ⟨m, rfl⟩ := Int.eq_ofNat_of_zero_le h2.1
  exact ⟨m, rfl, by have := h2.2; omega⟩
theorem trod_u64 (enc : TypeId × Value → H) (w : World) (base : Nat) (spare : Nat → Bool) (held : Bool) {n : Int} (hw : (Lit.int .u64 n).wf = true) : ∃ k, DataW.trod enc Tryd.prog w base spare held k 22 [.int .u64 n] = some (.lit (.int .u64 n), []) := by
  obtain ⟨k, hk⟩ := shut_int (enc := enc) (w := w) (base := base) (spare := spare) (held := held) Tryd.underlying22 hw
  exact ⟨k, hk⟩
/-- Four words, read. -/
theorem open_words {fuel : Nat} {c0 c1 c2 c3 : Value} {x : DataW H × List MemPlace} (h : DataW.trod enc Tryd.prog w base spare held fuel 24 [c0, c1, c2, c3] = some x) :
    ∃ a b c e : Int, c0 = .int .u64 a ∧ c1 = .int .u64 b ∧ c2 = .int .u64 c ∧ c3 = .int .u64 e ∧ x = (.agg [.lit (.int .u64 a), .lit (.int .u64 b), .lit (.int .u64 c), .lit (.int .u64 e)], []) ∧ (Lit.int .u64 a).wf = true ∧ (Lit.int .u64 b).wf = true ∧ (Lit.int .u64 c).wf = true ∧ (Lit.int .u64 e).wf = true := by
  obtain ⟨y0, y1, y2, y3, n, rfl, h0, h1, h2, h3⟩ := trod_array4 Tryd.underlying24 (by kernel_rfl) h
  obtain ⟨a, e0, rfl, wa⟩ := DataW.trod_int Tryd.underlying22 h0
  obtain ⟨b, e1, rfl, wb⟩ := DataW.trod_int Tryd.underlying22 h1
  obtain ⟨c, e2, rfl, wc⟩ := DataW.trod_int Tryd.underlying22 h2
  obtain ⟨e, e3, rfl, we⟩ := DataW.trod_int Tryd.underlying22 h3
  simp only [List.cons.injEq, and_true] at e0 e1 e2 e3
  exact ⟨a, b, c, e, e0, e1, e2, e3, rfl, wa, wb, wc, we⟩
theorem shut_words (enc : TypeId × Value → H) (w : World) (base : Nat) (spare : Nat → Bool) (held : Bool) {a b c e : Int} (wa : (Lit.int .u64 a).wf = true) (wb : (Lit.int .u64 b).wf = true) (wc : (Lit.int .u64 c).wf = true) (we : (Lit.int .u64 e).wf = true) :
    ∃ n, DataW.trod enc Tryd.prog w base spare held n 24 [.int .u64 a, .int .u64 b, .int .u64 c, .int .u64 e] = some (.agg [.lit (.int .u64 a), .lit (.int .u64 b), .lit (.int .u64 c), .lit (.int .u64 e)], []) := by
  obtain ⟨n0, t0⟩ := trod_u64 enc w base spare held wa
  obtain ⟨n1, t1⟩ := trod_u64 enc w base spare held wb
  obtain ⟨n2, t2⟩ := trod_u64 enc w base spare held wc
  obtain ⟨n3, t3⟩ := trod_u64 enc w base spare held we
  have s0 := DataW.trod_le (show n0 ≤ n0 + n1 + n2 + n3 by omega) t0
  have s1 := DataW.trod_le (show n1 ≤ n0 + n1 + n2 + n3 by omega) t1
  have s2 := DataW.trod_le (show n2 ≤ n0 + n1 + n2 + n3 by omega) t2
  have s3 := DataW.trod_le (show n3 ≤ n0 + n1 + n2 + n3 by omega) t3
  refine ⟨n0 + n1 + n2 + n3 + 1, ?_⟩
  unfold DataW.trod
  rw [Tryd.underlying24]
  have r4 : List.range 4 = [0, 1, 2, 3] := rfl
  have hc : Tryd.prog.cellsOf 22 = 1 := by kernel_rfl
  have h40 : Tryd.prog.cellsOf 24 = 4 := by kernel_rfl
  simp [r4, hc, h40, s0, s1, s2, s3]
theorem okWide_arr {P : Program} {w : World} {r : Reach} {b t : Nat} {v : Value} {n : Nat} {e : TypeId} (ht : P.underlying t = some (.array n e)) (h : Value.okWide P w r b t v) : ∃ cs, v = .agg cs ∧ cs.size = P.cellsOf t := by
  simp only [Value.okWide, ht] at h
  obtain ⟨cs, h1, h2, _⟩ := h
  exact ⟨cs, h1, h2⟩
set_option maxRecDepth 100000 in
theorem open_bits {r : Reach} {b0 : Nat} {v : Value} {d : DataW H} {p : List MemPlace} (hv : Value.okWide Tryd.prog w r b0 24 v) (h : DataW.Trod enc Tryd.prog w base spare held 24 v d p) :
    ∃ a b c e : Int, v = .agg #[.int .u64 a, .int .u64 b, .int .u64 c, .int .u64 e] ∧ d = .agg [.lit (.int .u64 a), .lit (.int .u64 b), .lit (.int .u64 c), .lit (.int .u64 e)] ∧ p = [] ∧ (Lit.int .u64 a).wf = true ∧ (Lit.int .u64 b).wf = true ∧ (Lit.int .u64 c).wf = true ∧ (Lit.int .u64 e).wf = true := by
  obtain ⟨cs, rfl, hsz⟩ := okWide_arr (t := 24) (n := 4) (e := 22) Tryd.underlying24 hv
  obtain ⟨l⟩ := cs
  match l, hsz.trans (show Tryd.prog.cellsOf 24 = 4 by kernel_rfl) with
  | [c0, c1, c2, c3], _ =>
    obtain ⟨fuel, hf⟩ := h
    obtain ⟨a, b, c, e, rfl, rfl, rfl, rfl, hx, wa, wb, wc, we⟩ := open_words hf
    simp only [Prod.mk.injEq] at hx
    exact ⟨a, b, c, e, rfl, hx.1, hx.2, wa, wb, wc, we⟩
theorem shut_bits {a b c e : Int} (wa : (Lit.int .u64 a).wf = true) (wb : (Lit.int .u64 b).wf = true) (wc : (Lit.int .u64 c).wf = true) (we : (Lit.int .u64 e).wf = true) :
    DataW.Trod enc Tryd.prog w base spare held 24 (.agg #[.int .u64 a, .int .u64 b, .int .u64 c, .int .u64 e]) (.agg [.lit (.int .u64 a), .lit (.int .u64 b), .lit (.int .u64 c), .lit (.int .u64 e)]) [] := by
  obtain ⟨n, hn⟩ := shut_words enc w base spare held wa wb wc we
  exact ⟨n, by simpa [Value.cells] using hn⟩
theorem W4_of {a b c e : Nat} (ha : a < 2 ^ 64) (hb : b < 2 ^ 64) (hc : c < 2 ^ 64) (he : e < 2 ^ 64) : Mk.W4 [a, b, c, e] := by
  refine ⟨rfl, fun i => ?_⟩
  match i with
  | 0 => exact ha
  | 1 => exact hb
  | 2 => exact hc
  | 3 => exact he
  | n + 4 => simp [Mk.nth]
theorem i64_of_wf {n : Int} (h : (Lit.int .i64 n).wf = true) : n < 9223372036854775808 := by
  have h2 : IntKind.i64.min ≤ n ∧ n ≤ IntKind.i64.max := by simpa [Lit.wf] using h
  have h4 : IntKind.i64.max = 9223372036854775807 := by decide
  rw [h4] at h2
  omega
end
end Go.Proofs.YthmlibapjhmdbaaDoor
