/- What each law's row needs: the last step; how texts, and scripts, are read. -/
import Derived.Test.YtlhfijjjfolldaaA1
import Derived.ProofKit
import Derived.Lib.SmallJoins
import Derived.Laws.IdiomArrays
import Derived.Carry
import Derived.ChangeSlices
import Derived.Deep.Slices
import Derived.OpenShut
namespace Go.Proofs.Ytlhfijjjfolldaa
open Go.ChangeShapes Go.WideShapes Go.ChangeAt Go.WideMaps Go.WideElems Go.RowKit Go.Joins Go.Deep

theorem laidOut : laidOutB Try.prog = true := by kernel_rfl
theorem own : ownKnob Try.prog.godebug = none := by kernel_rfl
/-- Arguments that can be read, read behind the call as before: of what lay there nothing has turned. -/
theorem trodAll_below {H : Type} {enc : TypeId × Value → H} {P : Program} (hl : laidOutB P = true) {W W' : World} (hb : Below W.heap.size W W') :
    ∀ {ts : List TypeId} {vs : List Value} {ds : List (DataW H)} {ps : List MemPlace}, (ts.all fun t => P.readableRec t && decide (t < P.types.size)) = true →
      DataW.TrodAll enc P W 0 (fun _ => true) true ts vs ds ps → DataW.TrodAll enc P W' 0 (fun b => decide (b < W.heap.size)) true ts vs ds ps
  | [], [], [], _, _, h => h
  | [], _ :: _, _, _, _, h => h.elim
  | [], [], _ :: _, _, _, h => h.elim
  | _ :: _, [], _, _, _, h => h.elim
  | _ :: _, _ :: _, [], _, _, h => h.elim
  | t :: ts, v :: vs, d :: ds, ps, ht, h => by
    have hlt := h.lt
    obtain ⟨p, q, h1, h2, e⟩ := h
    simp only [List.all_cons, Bool.and_eq_true, decide_eq_true_eq] at ht
    refine ⟨p, q, Below.trod hl ht.1.1 ht.1.2 h1 hb (fun x hx => hlt x (by rw [e]; simp [hx])), trodAll_below hl hb ?_ h2, e⟩
    simpa using ht.2
set_option maxRecDepth 100000 in
theorem answerAll {H : Type} {enc : TypeId × Value → H} {f : Func} {sp : ChangeSpec} {W W' : World} {args : Array Value} {ds : List (DataW H)} {before : List MemPlace}
    (hvars : sp.vars = []) (hres0 : f.resultTypes = #[4]) (hfn : (sp.fn H (ds ++ [])).results = [.lit (.bool true)]) (hfa : (sp.fn H (ds ++ [])).args = ds) (hfv : (sp.fn H (ds ++ [])).vars = [])
    (hts : (f.params.toList.all fun t => Try.prog.readableRec t && decide (t < Try.prog.types.size)) = true)
    (hW : DataW.Whole enc Try.prog f.params.toList sp.vars false W args.toList ds [] before) (hb : Below W.heap.size W W') :
    sp.post enc Try.prog f false true false false W args (.bool true) W' := by
  have hW' := hW
  obtain ⟨p, q, hA, hV, e, _, _⟩ := hW'
  have hr : ∀ (b : Nat) (q : Nat → Bool) (hd : Bool), DataW.TrodAll enc Try.prog W' b q hd f.resultTypes.toList ((Value.bool true).resultList f.resultTypes.size) (sp.fn H (ds ++ [])).results [] := by
    intro b q hd
    rw [hres0, hfn]
    exact trodAll_cons_mk (shut_bool Try.underlying4 _) trodAll_mk0
  have ha : DataW.TrodAll enc Try.prog W' 0 (fun b => decide (b < W.heap.size)) true f.params.toList args.toList (sp.fn H (ds ++ [])).args p := by
    rw [hfa]
    exact trodAll_below laidOut hb hts hA
  have hv : ∀ q : Nat → Bool, DataW.TrodVars enc Try.prog W' q sp.vars (sp.fn H (ds ++ [])).vars [] := by
    intro q
    rw [hvars, hfv]
    rfl
  exact ⟨ds, [], before, [], p, [], hW, hr _ _ _, ha, hv _, hb.frame _, fun h => by cases h⟩

section
variable {H : Type} {enc : TypeId × Value → H} {w : World}
theorem cells3 : Try.prog.cellsOf 3 = 1 := by kernel_rfl
theorem cells9 : Try.prog.cellsOf 9 = 1 := by kernel_rfl
theorem cells30 : Try.prog.cellsOf 30 = 1 := by kernel_rfl
theorem cells32 : Try.prog.cellsOf 32 = 3 := by kernel_rfl
theorem add_pos (a : Addr) {n : Nat} (h : n ≠ 0) : a.add n = ⟨a.block, a.off + n, none⟩ := by unfold Addr.add; simp [h]
theorem list_of {α : Type} {Q : Nat → α → Prop} : ∀ n : Nat, (∀ i, i < n → ∃ o, Q i o) → ∃ os : List α, os.length = n ∧ ∀ i o, os[i]? = some o → Q i o
  | 0, _ => ⟨[], rfl, fun i o h => by simp at h⟩
  | n + 1, h => by
    obtain ⟨os, h1, h2⟩ := list_of n (fun i hi => h i (by omega))
    obtain ⟨o, ho⟩ := h n (by omega)
    refine ⟨os ++ [o], by simp [h1], fun i x hx => ?_⟩
    by_cases hi : i < n
    · rw [List.getElem?_append_left (by omega)] at hx
      exact h2 i x hx
    · have hlt := (List.getElem?_eq_some_iff.1 hx).1
      simp at hlt
      obtain rfl : i = n := by omega
      rw [List.getElem?_append_right (by omega), h1] at hx
      simp at hx
      subst hx
      exact ho
theorem block_of {a : Addr} {v : Value} (h : w.cell? a = some v) : a.block < w.heap.size := by
  rcases Nat.lt_or_ge a.block w.heap.size with h2 | h2
  · exact h2
  · rw [World.cell?, Array.getElem?_eq_none h2] at h
    cases h
theorem add0 (a : Addr) : a.add 0 = a := by unfold Addr.add; simp
/-- A slice of texts that was handed in. -/
structure Tl (w : World) (A : Option Addr) (n cap : Nat) (zs : List Str) : Prop where
  at_ : StrsAt w A zs
  len : zs.length = n
  le : n ≤ cap
  most : n ≤ maxLen
  no : A = none → cap = 0
theorem Tl.next {A : Option Addr} {n cap : Nat} {zs : List Str} {w' : World} (h : Tl w A n cap zs) (hb : Below w.heap.size w w') : Tl w' A n cap zs := ⟨h.at_.next hb, h.len, h.le, h.most, h.no⟩
set_option maxRecDepth 100000 in
theorem open_texts {fuel : Nat} {v : Value} {y : DataW H × List MemPlace} (hf : DataW.trod enc Try.prog w 0 (fun _ => true) true fuel 30 [v] = some y) :
    ∃ (A : Option Addr) (n cap : Nat) (zs : List Str), v = .slice A n cap ∧ Tl w A n cap zs := by
  rcases open_slice Try.underlying30 hf with ⟨hcs, _⟩ | ⟨a, len, cap, m, n, D, Pl, hcs, _, hl, hc, hm, _, hel⟩
  · simp only [List.cons.injEq, and_true] at hcs
    subst hcs
    exact ⟨none, 0, 0, [], rfl, .inl rfl, rfl, Nat.le_refl _, Nat.zero_le _, fun _ => rfl⟩
  · simp only [List.cons.injEq, and_true] at hcs
    subst hcs
    simp only [if_true] at hm
    subst hm
    have each : ∀ i, i < len → ∃ s : Str, w.cell? (a.add i) = some (.string s) := by
      intro i hi
      obtain ⟨cs', h1, h2⟩ := hel i (by omega)
      rw [cells9, Nat.mul_one] at h1
      obtain ⟨s, hs, _, _⟩ := DataW.trod_string Try.underlying9 h2
      subst hs
      have q0 := (World.cells?_some h1).2.2 0 (by omega)
      rw [add0] at q0
      exact ⟨s, q0⟩
    obtain ⟨zs, h1, h2⟩ := list_of len each
    refine ⟨some a, len, _, zs, rfl, ?_, h1, hl, by omega, fun h => by cases h⟩
    rcases Nat.eq_zero_or_pos len with e | e
    · exact .inl (List.length_eq_zero_iff.1 (by omega))
    · refine .inr ⟨a, rfl, ?_, h2⟩
      obtain ⟨o, ho⟩ := each 0 e
      rw [add0] at ho
      exact block_of ho
theorem open_strs {r : Reach} {b0 : Nat} {v : Value} {d : DataW H} {p : List MemPlace} (hv : Value.okWide Try.prog w r b0 30 v) (h : DataW.Trod enc Try.prog w 0 (fun _ => true) true 30 v d p) :
    ∃ (A : Option Addr) (n cap : Nat) (zs : List Str), v = .slice A n cap ∧ Tl w A n cap zs := by
  obtain ⟨a0, len, cap, rfl⟩ := okWide_slice Try.underlying30 hv
  obtain ⟨fuel, hf⟩ := h
  exact open_texts hf
/-- A call. -/
structure Oq where
  d : Int
  A : Option Addr
  cap : Nat
  zs : List Str
  i : Int
abbrev Oq.cs (o : Oq) : Array Value := #[.int .i64 o.d, .slice o.A o.zs.length o.cap, .int .i64 o.i]
set_option maxRecDepth 100000 in
theorem open_op_c {fuel : Nat} {cs : List Value} {y : DataW H × List MemPlace} (hf : DataW.trod enc Try.prog w 0 (fun _ => true) true fuel 32 cs = some y) : ∃ o : Oq, cs = o.cs.toList ∧ Tl w o.A o.zs.length o.cap o.zs ∧ wf o.i := by
  obtain ⟨xs, n, _, hx, hcl, hlen, hg⟩ := DataW.trod_struct Try.underlying32 hf
  rw [cells32] at hcl
  match cs, hcl with
  | [c0, c1, c2], _ =>
    match xs, hlen with
    | [y0, y1, y2], _ =>
      have g0 := hg 0 _ rfl
      have g1 := hg 1 _ rfl
      have g2 := hg 2 _ rfl
      simp [cells3, cells30] at g0 g1 g2
      obtain ⟨z0, e0, _, w0⟩ := DataW.trod_int Try.underlying3 g0
      obtain ⟨z2, e2, _, w2⟩ := DataW.trod_int Try.underlying3 g2
      simp only [List.cons.injEq, and_true] at e0 e2
      subst e0 e2
      obtain ⟨A, n, cap, zs, rfl, hT⟩ := open_texts g1
      obtain rfl := hT.len
      exact ⟨⟨_, A, cap, zs, _⟩, rfl, hT, w2⟩
theorem open_opv {r : Reach} {b0 : Nat} {v : Value} {d : DataW H} {p : List MemPlace} (hv : Value.okWide Try.prog w r b0 32 v) (h : DataW.Trod enc Try.prog w 0 (fun _ => true) true 32 v d p) : ∃ o : Oq, v = .agg o.cs ∧ Tl w o.A o.zs.length o.cap o.zs ∧ wf o.i := by
  obtain ⟨cs, rfl, hsz⟩ := okWide_struct Try.underlying32 hv
  obtain ⟨cs⟩ := cs
  obtain ⟨fuel, hf⟩ := h
  have hf' : DataW.trod enc Try.prog w 0 (fun _ => true) true fuel 32 cs = some (d, p) := hf
  obtain ⟨o, rfl, h1, h2⟩ := open_op_c hf'
  exact ⟨o, rfl, h1, h2⟩
/-- A call at a place. -/
structure OqAt (w : World) (e : Addr) (o : Oq) : Prop where
  c0 : w.cell? e = some (.int .i64 o.d)
  c1 : w.cell? ⟨e.block, e.off + 1, none⟩ = some (.slice o.A o.zs.length o.cap)
  c2 : w.cell? ⟨e.block, e.off + 2, none⟩ = some (.int .i64 o.i)
theorem OqAt.next {w' : World} {e : Addr} {o : Oq} (h : OqAt w e o) (he : e.block < w.heap.size) (hb : Below w.heap.size w w') : OqAt w' e o :=
  ⟨(hb.cell he).trans h.c0, (hb.cell (p := ⟨e.block, e.off + 1, none⟩) he).trans h.c1, (hb.cell (p := ⟨e.block, e.off + 2, none⟩) he).trans h.c2⟩
/-- A script. -/
structure Sq (w : World) (A : Option Addr) (n : Nat) (os : List Oq) : Prop where
  at_ : os = [] ∨ ∃ ad, A = some ad ∧ ad.block < w.heap.size ∧ ∀ i o, os[i]? = some o → OqAt w (ad.add (i * 3)) o
  ok : ∀ o ∈ os, Tl w o.A o.zs.length o.cap o.zs ∧ wf o.i
  len : os.length = n
  most : n ≤ maxLen
theorem Sq.still {A : Option Addr} {n : Nat} {os : List Oq} (h : Sq w A n os) {i : Nat} {o : Oq} (hi : os[i]? = some o) : ∃ ad, A = some ad ∧ ad.block < w.heap.size ∧ (Tl w o.A o.zs.length o.cap o.zs ∧ wf o.i) ∧ ∀ V, Below w.heap.size w V → OqAt V (ad.add (i * 3)) o := by
  rcases h.at_ with q | ⟨ad, q, h1, h2⟩
  · rw [q] at hi
    simp at hi
  · exact ⟨ad, q, h1, h.ok _ (List.mem_of_getElem? hi), fun V hV => (h2 i _ hi).next (by rw [block_add]; exact h1) hV⟩
set_option maxRecDepth 100000 in
theorem open_scr {r : Reach} {b0 : Nat} {v : Value} {d : DataW H} {p : List MemPlace} (hv : Value.okWide Try.prog w r b0 22 v) (h : DataW.Trod enc Try.prog w 0 (fun _ => true) true 22 v d p) :
    ∃ (A : Option Addr) (n cap : Nat) (os : List Oq), v = .slice A n cap ∧ Sq w A n os := by
  obtain ⟨a0, len0, cap0, rfl⟩ := okWide_slice Try.underlying22 hv
  obtain ⟨fuel, hf⟩ := h
  have hf' : DataW.trod enc Try.prog w 0 (fun _ => true) true fuel 22 [.slice a0 len0 cap0] = some (d, p) := hf
  rcases open_slice Try.underlying22 hf' with ⟨hcs, _⟩ | ⟨a, len, cap, m, n, D, Pl, hcs, _, hl, hc, hm, _, hel⟩
  · simp only [List.cons.injEq, and_true] at hcs
    rw [hcs]
    exact ⟨none, 0, 0, [], rfl, .inl rfl, (fun o ho => by cases ho), rfl, Nat.zero_le _⟩
  · simp only [List.cons.injEq, and_true] at hcs
    rw [hcs]
    simp only [if_true] at hm
    subst hm
    have each : ∀ i, i < len → ∃ o : Oq, OqAt w (a.add (i * 3)) o ∧ Tl w o.A o.zs.length o.cap o.zs ∧ wf o.i := by
      intro i hi
      obtain ⟨cs', h1, h2⟩ := hel i (by omega)
      rw [cells32] at h1
      obtain ⟨o, rfl, hT⟩ := open_op_c h2
      have q0 := (World.cells?_some h1).2.2 0 (by omega)
      have q1 := (World.cells?_some h1).2.2 1 (by omega)
      have q2 := (World.cells?_some h1).2.2 2 (by omega)
      rw [add_pos _ (by omega)] at q1 q2
      rw [add0] at q0
      exact ⟨o, ⟨q0, q1, q2⟩, hT⟩
    obtain ⟨os, h1, h2⟩ := list_of len each
    refine ⟨some a, len, _, os, rfl, ?_, fun o ho => ?_, h1, by omega⟩
    · rcases Nat.eq_zero_or_pos len with e | e
      · exact .inl (List.length_eq_zero_iff.1 (by omega))
      · refine .inr ⟨a, rfl, ?_, fun i o hi => (h2 i o hi).1⟩
        obtain ⟨o, ho, _⟩ := each 0 e
        have h0 := ho.c0
        rw [show a.add (0 * 3) = a from add0 a] at h0
        exact block_of h0
    · obtain ⟨i, hi, e⟩ := List.getElem_of_mem ho
      exact (h2 i o (by rw [List.getElem?_eq_getElem hi, e])).2
end
end Go.Proofs.Ytlhfijjjfolldaa
