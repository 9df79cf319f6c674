/- What each law's row needs: the last step; how a credential, and a script of calls, are read. -/
import Derived.Test.YtiokpflciagdoaaA4
import Derived.ProofKit
import Derived.Lib.SmallJoins
import Derived.Laws.IdiomArrays
import Derived.Carry
import Derived.ChangeSlices
import Derived.Deep.Slices
namespace Go.Proofs.Ytiokpflciagdoaa
open Go.ChangeShapes Go.WideShapes Go.ChangeAt Go.WideMaps Go.WideElems Go.RowKit Go.Joins Go.Deep

theorem own : ownKnob Try.prog.godebug = none := by kernel_rfl
/-- Arguments that can be read, read behind the call as before: of what lay there nothing has turned. -/
theorem trodAll_below {H : Type} {enc : TypeId × Value → H} {P : Program} (hl : laidOutB P = true) {W W' : World} (hb : Below W.heap.size W W') :
    ∀ {ts : List TypeId} {vs : List Value} {ds : List (DataW H)} {ps : List MemPlace}, (ts.all fun t => P.readableRec t && decide (t < P.types.size)) = true →
      DataW.TrodAll enc P W 0 (fun _ => true) true ts vs ds ps → DataW.TrodAll enc P W' 0 (fun b => decide (b < W.heap.size)) true ts vs ds ps
  | [], [], [], _, _, h => h
  | [], _ :: _, _, _, _, h => h.elim
  | [], [], _ :: _, _, _, h => h.elim
  | _ :: _, [], _, _, _, h => h.elim
  | _ :: _, _ :: _, [], _, _, h => h.elim
  | t :: ts, v :: vs, d :: ds, ps, ht, h => by
    have hlt := h.lt
    obtain ⟨p, q, h1, h2, e⟩ := h
    simp only [List.all_cons, Bool.and_eq_true, decide_eq_true_eq] at ht
    refine ⟨p, q, Below.trod hl ht.1.1 ht.1.2 h1 hb (fun x hx => hlt x (by rw [e]; simp [hx])), trodAll_below hl hb ?_ h2, e⟩
    simpa using ht.2
set_option maxRecDepth 100000 in
theorem answerAll {H : Type} {enc : TypeId × Value → H} {f : Func} {sp : ChangeSpec} {W W' : World} {args : Array Value} {ds : List (DataW H)} {before : List MemPlace}
    (hvars : sp.vars = []) (hres0 : f.resultTypes = #[4]) (hfn : (sp.fn H (ds ++ [])).results = [.lit (.bool true)]) (hfa : (sp.fn H (ds ++ [])).args = ds) (hfv : (sp.fn H (ds ++ [])).vars = [])
    (hts : (f.params.toList.all fun t => Try.prog.readableRec t && decide (t < Try.prog.types.size)) = true)
    (hW : DataW.Whole enc Try.prog f.params.toList sp.vars false W args.toList ds [] before) (hb : Below W.heap.size W W') :
    sp.post enc Try.prog f false true false false W args (.bool true) W' := by
  have hW' := hW
  obtain ⟨p, q, hA, hV, e, _, _⟩ := hW'
  have hr : ∀ (b : Nat) (q : Nat → Bool) (hd : Bool), DataW.TrodAll enc Try.prog W' b q hd f.resultTypes.toList ((Value.bool true).resultList f.resultTypes.size) (sp.fn H (ds ++ [])).results [] := by
    intro b q hd
    rw [hres0, hfn]
    exact trodAll_cons_mk (shut_bool Try.underlying4 _) trodAll_mk0
  have ha : DataW.TrodAll enc Try.prog W' 0 (fun b => decide (b < W.heap.size)) true f.params.toList args.toList (sp.fn H (ds ++ [])).args p := by
    rw [hfa]
    exact trodAll_below laidOut hb hts hA
  have hv : ∀ q : Nat → Bool, DataW.TrodVars enc Try.prog W' q sp.vars (sp.fn H (ds ++ [])).vars [] := by
    intro q
    rw [hvars, hfv]
    rfl
  exact ⟨ds, [], before, [], p, [], hW, hr _ _ _, ha, hv _, hb.frame _, fun h => by cases h⟩

/-- A credential. -/
structure Cr where
  j : Int
  e : Int
  s : Int
  f : Int
  u : Int
  A : Option Addr
  n : Nat
  cap : Nat
  c : Int
  zs : List Int
abbrev Cr.cs (x : Cr) : List Value := [.int .i64 x.j, .int .i64 x.e, .int .i64 x.s, .int .i64 x.f, .int .i64 x.u, .slice x.A x.n x.cap, .int .i64 x.c]
/-- A credential that was handed in. -/
structure CrAt (w : World) (x : Cr) : Prop where
  wj : wf x.j
  we : wf x.e
  ws : wf x.s
  wf_ : wf x.f
  wu : wf x.u
  wc : wf x.c
  len : x.zs.length = x.n
  max : x.n ≤ maxLen
  cap : x.n ≤ x.cap
  ints : IntsAt w x.A x.zs
section
variable {H : Type} {enc : TypeId × Value → H} {w : World}
theorem open_nodes {fuel : Nat} {v : Value} {y : DataW H × List MemPlace} (hf : DataW.trod enc Try.prog w 0 (fun _ => true) true fuel 29 [v] = some y) :
    ∃ (A : Option Addr) (n cap : Nat) (zs : List Int), v = .slice A n cap ∧ zs.length = n ∧ n ≤ cap ∧ n ≤ maxLen ∧ IntsAt w A zs := by
  rcases open_ints Try.underlying29 Try.underlying3 (by kernel_rfl) hf with ⟨hcs, hx⟩ | ⟨a, len, cap, zs, hcs, _, hl, hm, hz, hx, hcell, hwz⟩
  · simp only [List.cons.injEq, and_true] at hcs
    subst hcs
    exact ⟨none, 0, 0, [], rfl, rfl, Nat.le_refl _, Nat.zero_le _, .inl rfl⟩
  · simp only [List.cons.injEq, and_true] at hcs
    subst hcs
    simp only [if_true] at hz
    refine ⟨some a, len, cap, zs.take len, rfl, by rw [List.length_take]; omega, hl, by omega, ?_⟩
    rcases Nat.eq_zero_or_pos len with e | e
    · exact .inl (by rw [e]; rfl)
    · refine .inr ⟨a, rfl, ?_, fun j hj => ?_⟩
      · have h0 := hcell 0 (by omega)
        rw [show a.add 0 = a from by unfold Addr.add; simp] at h0
        rcases Nat.lt_or_ge a.block w.heap.size with h2 | h2
        · exact h2
        · rw [World.cell?, Array.getElem?_eq_none h2] at h0
          cases h0
      · rw [List.length_take] at hj
        rw [hcell j (by omega)]
        have e2 : (zs.take len).getD j 0 = zs.getD j 0 := by simp [List.getD, (by omega : j < len)]
        rw [e2]
theorem cells29 : Try.prog.cellsOf 29 = 1 := by kernel_rfl
theorem cells3 : Try.prog.cellsOf 3 = 1 := by kernel_rfl
theorem cells31 : Try.prog.cellsOf 31 = 7 := by kernel_rfl
theorem cells33 : Try.prog.cellsOf 33 = 11 := by kernel_rfl
theorem open_cells {fuel : Nat} {cs : List Value} {y : DataW H × List MemPlace} (hf : DataW.trod enc Try.prog w 0 (fun _ => true) true fuel 31 cs = some y) : ∃ x : Cr, cs = x.cs ∧ CrAt w x := by
  obtain ⟨xs, n, _, hx, hcl, hlen, hg⟩ := DataW.trod_struct Try.underlying31 hf
  rw [cells31] at hcl
  match cs, hcl with
  | [c0, c1, c2, c3, c4, c5, c6], _ =>
    match xs, hlen with
    | [y0, y1, y2, y3, y4, y5, y6], _ =>
      have g0 := hg 0 _ rfl
      have g1 := hg 1 _ rfl
      have g2 := hg 2 _ rfl
      have g3 := hg 3 _ rfl
      have g4 := hg 4 _ rfl
      have g5 := hg 5 _ rfl
      have g6 := hg 6 _ rfl
      simp [cells29, cells3] at g0 g1 g2 g3 g4 g5 g6
      obtain ⟨j, e0, _, wj⟩ := DataW.trod_int Try.underlying3 g0
      obtain ⟨e, e1, _, we⟩ := DataW.trod_int Try.underlying3 g1
      obtain ⟨s, e2, _, ws⟩ := DataW.trod_int Try.underlying3 g2
      obtain ⟨f, e3, _, wf'⟩ := DataW.trod_int Try.underlying3 g3
      obtain ⟨u, e4, _, wu⟩ := DataW.trod_int Try.underlying3 g4
      obtain ⟨A, k, cap, zs, rfl, h1, h2, h3, h4⟩ := open_nodes g5
      obtain ⟨c, e6, _, wc⟩ := DataW.trod_int Try.underlying3 g6
      simp only [List.cons.injEq, and_true] at e0 e1 e2 e3 e4 e6
      subst e0 e1 e2 e3 e4 e6
      exact ⟨⟨j, e, s, f, u, A, k, cap, c, zs⟩, rfl, ⟨wj, we, ws, wf', wu, wc, h1, h3, h2, h4⟩⟩
theorem open_cred {r : Reach} {b0 : Nat} {v : Value} {d : DataW H} {p : List MemPlace} (hv : Value.okWide Try.prog w r b0 31 v) (h : DataW.Trod enc Try.prog w 0 (fun _ => true) true 31 v d p) :
    ∃ x : Cr, v = .agg #[.int .i64 x.j, .int .i64 x.e, .int .i64 x.s, .int .i64 x.f, .int .i64 x.u, .slice x.A x.n x.cap, .int .i64 x.c] ∧ CrAt w x := by
  obtain ⟨cs, rfl, hsz⟩ := okWide_struct Try.underlying31 hv
  obtain ⟨l⟩ := cs
  obtain ⟨fuel, hf⟩ := h
  obtain ⟨x, hx, hc⟩ := open_cells hf
  have hx' : l = x.cs := hx
  subst hx'
  exact ⟨x, rfl, hc⟩

/-- A call of a script. -/
structure OpR where
  d : Int
  c : Cr
  now : Int
  job : Int
  ep : Int
abbrev OpR.cs (o : OpR) : List Value := [.int .i64 o.d, .int .i64 o.c.j, .int .i64 o.c.e, .int .i64 o.c.s, .int .i64 o.c.f, .int .i64 o.c.u, .slice o.c.A o.c.n o.c.cap, .int .i64 o.c.c, .int .i64 o.now, .int .i64 o.job, .int .i64 o.ep]
structure OpAt (w : World) (o : OpR) : Prop where
  cr : CrAt w o.c
  wn : wf o.now
  wj : wf o.job
  we : wf o.ep
theorem open_op {fuel : Nat} {cs : List Value} {y : DataW H × List MemPlace} (hf : DataW.trod enc Try.prog w 0 (fun _ => true) true fuel 33 cs = some y) : ∃ o : OpR, cs = o.cs ∧ OpAt w o := by
  obtain ⟨xs, n, _, hx, hcl, hlen, hg⟩ := DataW.trod_struct Try.underlying33 hf
  rw [cells33] at hcl
  match cs, hcl with
  | [c0, c1, c2, c3, c4, c5, c6, c7, c8, c9, c10], _ =>
    match xs, hlen with
    | [y0, y1, y2, y3, y4], _ =>
      have g0 := hg 0 _ rfl
      have g1 := hg 1 _ rfl
      have g2 := hg 2 _ rfl
      have g3 := hg 3 _ rfl
      have g4 := hg 4 _ rfl
      simp [cells31, cells3] at g0 g1 g2 g3 g4
      obtain ⟨d, e0, _, wd⟩ := DataW.trod_int Try.underlying3 g0
      obtain ⟨x, e1, hx1⟩ := open_cells g1
      obtain ⟨nw, e2, _, wn⟩ := DataW.trod_int Try.underlying3 g2
      obtain ⟨jb, e3, _, wj⟩ := DataW.trod_int Try.underlying3 g3
      obtain ⟨ep, e4, _, we⟩ := DataW.trod_int Try.underlying3 g4
      simp only [List.cons.injEq, and_true, Cr.cs] at e0 e1 e2 e3 e4
      obtain ⟨rfl, rfl, rfl, rfl, rfl, rfl, rfl⟩ := e1
      subst e0 e2 e3 e4
      exact ⟨⟨d, x, nw, jb, ep⟩, rfl, ⟨hx1, wn, wj, we⟩⟩
/-- A script, as its calls. -/
def ScriptAt (w : World) (A : Option Addr) (os : List OpR) : Prop :=
  (∀ o ∈ os, OpAt w o) ∧ (os = [] ∨ ∃ ad, A = some ad ∧ ad.block < w.heap.size ∧ ∀ i o, os[i]? = some o → ∀ k, k < 11 → w.cell? (ad.add (i * 11 + k)) = o.cs[k]?)
theorem add_add (a : Addr) (m n : Nat) : (a.add m).add n = a.add (m + n) := by
  unfold Addr.add
  by_cases hm : m = 0
  · subst hm; simp
  · by_cases hn : n = 0
    · subst hn; simp [hm]
    · simp [hm, hn, Nat.add_assoc]
theorem list_of {α : Type} {Q : Nat → α → Prop} : ∀ n : Nat, (∀ i, i < n → ∃ o, Q i o) → ∃ os : List α, os.length = n ∧ ∀ i o, os[i]? = some o → Q i o
  | 0, _ => ⟨[], rfl, fun i o h => by simp at h⟩
  | n + 1, h => by
    obtain ⟨os, h1, h2⟩ := list_of n (fun i hi => h i (by omega))
    obtain ⟨o, ho⟩ := h n (by omega)
    refine ⟨os ++ [o], by simp [h1], fun i x hx => ?_⟩
    by_cases hi : i < n
    · rw [List.getElem?_append_left (by omega)] at hx
      exact h2 i x hx
    · have hlt := (List.getElem?_eq_some_iff.1 hx).1
      simp at hlt
      obtain rfl : i = n := by omega
      rw [List.getElem?_append_right (by omega), h1] at hx
      simp at hx
      subst hx
      exact ho
theorem open_script {fuel : Nat} {v : Value} {y : DataW H × List MemPlace} (hf : DataW.trod enc Try.prog w 0 (fun _ => true) true fuel 22 [v] = some y) :
    ∃ (A : Option Addr) (n cap : Nat) (os : List OpR), v = .slice A n cap ∧ os.length = n ∧ n ≤ cap ∧ n ≤ maxLen ∧ ScriptAt w A os := by
  rcases open_slice Try.underlying22 hf with ⟨hcs, _⟩ | ⟨a, len, cap, m, n, D, Pl, hcs, _, hl, hc, hm, _, hel⟩
  · simp only [List.cons.injEq, and_true] at hcs
    subst hcs
    exact ⟨none, 0, 0, [], rfl, rfl, Nat.le_refl _, Nat.zero_le _, by simp, .inl rfl⟩
  · simp only [List.cons.injEq, and_true] at hcs
    subst hcs
    simp only [if_true] at hm
    subst hm
    have each : ∀ i, i < len → ∃ o : OpR, OpAt w o ∧ ∀ k, k < 11 → w.cell? (a.add (i * 11 + k)) = o.cs[k]? := by
      intro i hi
      obtain ⟨cs', h1, h2⟩ := hel i (by omega)
      rw [cells33] at h1
      obtain ⟨o, rfl, ho⟩ := open_op h2
      refine ⟨o, ho, fun k hk => ?_⟩
      have h3 := (World.cells?_some h1).2.2 k hk
      rw [add_add] at h3
      exact h3
    obtain ⟨os, h1, h2⟩ := list_of len each
    refine ⟨some a, len, _, os, rfl, h1, hl, by omega, ?_, ?_⟩
    · intro o ho
      obtain ⟨i, hi⟩ := List.getElem?_of_mem ho
      exact (h2 i o hi).1
    · rcases Nat.eq_zero_or_pos len with e | e
      · exact .inl (List.length_eq_zero_iff.1 (by omega))
      · refine .inr ⟨a, rfl, ?_, fun i o hi => (h2 i o hi).2⟩
        obtain ⟨o, _, ho⟩ := each 0 e
        have h0 := ho 0 (by omega)
        rw [show a.add (0 * 11 + 0) = a from by unfold Addr.add; simp] at h0
        rcases Nat.lt_or_ge a.block w.heap.size with h2 | h2
        · exact h2
        · rw [World.cell?, Array.getElem?_eq_none h2] at h0
          simp at h0
end
end Go.Proofs.Ytiokpflciagdoaa
