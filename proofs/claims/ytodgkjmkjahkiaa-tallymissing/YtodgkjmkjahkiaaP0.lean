/- What each law's row needs: the last step; how steps, and numbers, are read. -/
import Derived.Test.YtodgkjmkjahkiaaE2
import Derived.ProofKit
import Derived.Lib.SmallJoins
import Derived.Laws.IdiomArrays
import Derived.Carry
import Derived.ChangeSlices
import Derived.Deep.Slices
import Derived.OpenShut
namespace Go.Proofs.Ytodgkjmkjahkiaa
open Go.ChangeShapes Go.WideShapes Go.ChangeAt Go.WideMaps Go.WideElems Go.RowKit Go.Joins Go.Deep

theorem laidOut : laidOutB Try.prog = true := by kernel_rfl
theorem own : ownKnob Try.prog.godebug = none := by kernel_rfl
/-- Arguments that can be read, read behind the call as before: of what lay there nothing has turned. -/
theorem trodAll_below {H : Type} {enc : TypeId × Value → H} {P : Program} (hl : laidOutB P = true) {W W' : World} (hb : Below W.heap.size W W') :
    ∀ {ts : List TypeId} {vs : List Value} {ds : List (DataW H)} {ps : List MemPlace}, (ts.all fun t => P.readableRec t && decide (t < P.types.size)) = true →
      DataW.TrodAll enc P W 0 (fun _ => true) true ts vs ds ps → DataW.TrodAll enc P W' 0 (fun b => decide (b < W.heap.size)) true ts vs ds ps
  | [], [], [], _, _, h => h
  | [], _ :: _, _, _, _, h => h.elim
  | [], [], _ :: _, _, _, h => h.elim
  | _ :: _, [], _, _, _, h => h.elim
  | _ :: _, _ :: _, [], _, _, h => h.elim
  | t :: ts, v :: vs, d :: ds, ps, ht, h => by
    have hlt := h.lt
    obtain ⟨p, q, h1, h2, e⟩ := h
    simp only [List.all_cons, Bool.and_eq_true, decide_eq_true_eq] at ht
    refine ⟨p, q, Below.trod hl ht.1.1 ht.1.2 h1 hb (fun x hx => hlt x (by rw [e]; simp [hx])), trodAll_below hl hb ?_ h2, e⟩
    simpa using ht.2
set_option maxRecDepth 100000 in
theorem answerAll {H : Type} {enc : TypeId × Value → H} {f : Func} {sp : ChangeSpec} {W W' : World} {args : Array Value} {ds : List (DataW H)} {before : List MemPlace}
    (hvars : sp.vars = []) (hres0 : f.resultTypes = #[4]) (hfn : (sp.fn H (ds ++ [])).results = [.lit (.bool true)]) (hfa : (sp.fn H (ds ++ [])).args = ds) (hfv : (sp.fn H (ds ++ [])).vars = [])
    (hts : (f.params.toList.all fun t => Try.prog.readableRec t && decide (t < Try.prog.types.size)) = true)
    (hW : DataW.Whole enc Try.prog f.params.toList sp.vars false W args.toList ds [] before) (hb : Below W.heap.size W W') :
    sp.post enc Try.prog f false true false false W args (.bool true) W' := by
  have hW' := hW
  obtain ⟨p, q, hA, hV, e, _, _⟩ := hW'
  have hr : ∀ (b : Nat) (q : Nat → Bool) (hd : Bool), DataW.TrodAll enc Try.prog W' b q hd f.resultTypes.toList ((Value.bool true).resultList f.resultTypes.size) (sp.fn H (ds ++ [])).results [] := by
    intro b q hd
    rw [hres0, hfn]
    exact trodAll_cons_mk (shut_bool Try.underlying4 _) trodAll_mk0
  have ha : DataW.TrodAll enc Try.prog W' 0 (fun b => decide (b < W.heap.size)) true f.params.toList args.toList (sp.fn H (ds ++ [])).args p := by
    rw [hfa]
    exact trodAll_below laidOut hb hts hA
  have hv : ∀ q : Nat → Bool, DataW.TrodVars enc Try.prog W' q sp.vars (sp.fn H (ds ++ [])).vars [] := by
    intro q
    rw [hvars, hfv]
    rfl
  exact ⟨ds, [], before, [], p, [], hW, hr _ _ _, ha, hv _, hb.frame _, fun h => by cases h⟩

section
variable {H : Type} {enc : TypeId × Value → H} {w : World}
theorem open_ilist {fuel : Nat} {v : Value} {y : DataW H × List MemPlace} (hf : DataW.trod enc Try.prog w 0 (fun _ => true) true fuel 28 [v] = some y) :
    ∃ (A : Option Addr) (n cap : Nat) (zs : List Int), v = .slice A n cap ∧ zs.length = n ∧ n ≤ cap ∧ n ≤ maxLen ∧ IntsAt w A zs := by
  rcases open_ints Try.underlying28 Try.underlying3 (by kernel_rfl) hf with ⟨hcs, hx⟩ | ⟨a, len, cap, zs, hcs, _, hl, hm, hz, hx, hcell, hwz⟩
  · simp only [List.cons.injEq, and_true] at hcs
    subst hcs
    exact ⟨none, 0, 0, [], rfl, rfl, Nat.le_refl _, Nat.zero_le _, .inl rfl⟩
  · simp only [List.cons.injEq, and_true] at hcs
    subst hcs
    simp only [if_true] at hz
    refine ⟨some a, len, cap, zs.take len, rfl, by rw [List.length_take]; omega, hl, by omega, ?_⟩
    rcases Nat.eq_zero_or_pos len with e | e
    · exact .inl (by rw [e]; rfl)
    · refine .inr ⟨a, rfl, ?_, fun j hj => ?_⟩
      · have h0 := hcell 0 (by omega)
        rw [show a.add 0 = a from by unfold Addr.add; simp] at h0
        rcases Nat.lt_or_ge a.block w.heap.size with h2 | h2
        · exact h2
        · rw [World.cell?, Array.getElem?_eq_none h2] at h0
          cases h0
      · rw [List.length_take] at hj
        rw [hcell j (by omega)]
        have e2 : (zs.take len).getD j 0 = zs.getD j 0 := by simp [List.getD, (by omega : j < len)]
        rw [e2]
theorem cells3 : Try.prog.cellsOf 3 = 1 := by kernel_rfl
theorem cells22 : Try.prog.cellsOf 22 = 1 := by kernel_rfl
theorem cells28 : Try.prog.cellsOf 28 = 1 := by kernel_rfl
theorem cells36 : Try.prog.cellsOf 36 = 1 := by kernel_rfl
theorem cells38 : Try.prog.cellsOf 38 = 5 := by kernel_rfl
theorem cells40 : Try.prog.cellsOf 40 = 2 := by kernel_rfl
theorem cells42 : Try.prog.cellsOf 42 = 4 := by kernel_rfl
theorem add_add (a : Addr) (m n : Nat) : (a.add m).add n = a.add (m + n) := by
  unfold Addr.add
  by_cases hm : m = 0
  · subst hm; simp
  · by_cases hn : n = 0
    · subst hn; simp [hm]
    · simp [hm, hn, Nat.add_assoc]
theorem add_pos (a : Addr) {n : Nat} (h : n ≠ 0) : a.add n = ⟨a.block, a.off + n, none⟩ := by unfold Addr.add; simp [h]
theorem list_of {α : Type} {Q : Nat → α → Prop} : ∀ n : Nat, (∀ i, i < n → ∃ o, Q i o) → ∃ os : List α, os.length = n ∧ ∀ i o, os[i]? = some o → Q i o
  | 0, _ => ⟨[], rfl, fun i o h => by simp at h⟩
  | n + 1, h => by
    obtain ⟨os, h1, h2⟩ := list_of n (fun i hi => h i (by omega))
    obtain ⟨o, ho⟩ := h n (by omega)
    refine ⟨os ++ [o], by simp [h1], fun i x hx => ?_⟩
    by_cases hi : i < n
    · rw [List.getElem?_append_left (by omega)] at hx
      exact h2 i x hx
    · have hlt := (List.getElem?_eq_some_iff.1 hx).1
      simp at hlt
      obtain rfl : i = n := by omega
      rw [List.getElem?_append_right (by omega), h1] at hx
      simp at hx
      subst hx
      exact ho
theorem block_of {a : Addr} {v : Value} (h : w.cell? a = some v) : a.block < w.heap.size := by
  rcases Nat.lt_or_ge a.block w.heap.size with h2 | h2
  · exact h2
  · rw [World.cell?, Array.getElem?_eq_none h2] at h
    cases h
theorem add0 (a : Addr) : a.add 0 = a := by unfold Addr.add; simp
abbrev edC (e : Ed) : List Value := [.int .i64 e.s, .int .i64 e.k]
set_option maxRecDepth 100000 in
theorem open_edge {fuel : Nat} {cs : List Value} {y : DataW H × List MemPlace} (hf : DataW.trod enc Try.prog w 0 (fun _ => true) true fuel 40 cs = some y) : ∃ e : Ed, cs = edC e := by
  obtain ⟨xs, n, _, hx, hcl, hlen, hg⟩ := DataW.trod_struct Try.underlying40 hf
  rw [cells40] at hcl
  match cs, hcl with
  | [c0, c1], _ =>
    match xs, hlen with
    | [y0, y1], _ =>
      have g0 := hg 0 _ rfl
      have g1 := hg 1 _ rfl
      simp [cells3] at g0 g1
      obtain ⟨z0, e0, _, w0⟩ := DataW.trod_int Try.underlying3 g0
      obtain ⟨z1, e1, _, w1⟩ := DataW.trod_int Try.underlying3 g1
      simp only [List.cons.injEq, and_true] at e0 e1
      subst e0 e1
      exact ⟨⟨_, _⟩, rfl⟩
set_option maxRecDepth 100000 in
theorem open_edges {fuel : Nat} {v : Value} {y : DataW H × List MemPlace} (hf : DataW.trod enc Try.prog w 0 (fun _ => true) true fuel 36 [v] = some y) :
    ∃ (A : Option Addr) (cap : Nat) (es : List Ed), v = .slice A es.length cap ∧ es.length ≤ cap ∧ es.length ≤ maxLen ∧ EdsAt w A es := by
  rcases open_slice Try.underlying36 hf with ⟨hcs, _⟩ | ⟨a, len, cap, m, n, D, Pl, hcs, _, hl, hc, hm, _, hel⟩
  · simp only [List.cons.injEq, and_true] at hcs
    subst hcs
    exact ⟨none, 0, [], rfl, Nat.le_refl _, Nat.zero_le _, .inl rfl⟩
  · simp only [List.cons.injEq, and_true] at hcs
    subst hcs
    simp only [if_true] at hm
    subst hm
    have each : ∀ i, i < len → ∃ e : Ed, EdAt w (a.add (i * 2)) e := by
      intro i hi
      obtain ⟨cs', h1, h2⟩ := hel i (by omega)
      rw [cells40] at h1
      obtain ⟨e, rfl⟩ := open_edge h2
      have q0 := (World.cells?_some h1).2.2 0 (by omega)
      have q1 := (World.cells?_some h1).2.2 1 (by omega)
      rw [add_pos _ (by omega)] at q1
      rw [add0] at q0
      exact ⟨e, q0, q1⟩
    obtain ⟨es, h1, h2⟩ := list_of len each
    subst h1
    refine ⟨some a, _, es, rfl, hl, by omega, ?_⟩
    rcases Nat.eq_zero_or_pos es.length with e | e
    · exact .inl (List.length_eq_zero_iff.1 e)
    · refine .inr ⟨a, rfl, ?_, fun k hk => ?_⟩
      · obtain ⟨o, ho⟩ := each 0 e
        have h0 := ho.c0
        rw [show a.add (0 * 2) = a from add0 a] at h0
        exact block_of h0
      · refine h2 k _ ?_
        unfold edA
        rw [List.getD_eq_getElem?_getD, List.getElem?_eq_getElem hk]
        rfl
set_option maxRecDepth 100000 in
theorem open_step {fuel : Nat} {cs : List Value} {y : DataW H × List MemPlace} (hf : DataW.trod enc Try.prog w 0 (fun _ => true) true fuel 38 cs = some y) :
    ∃ (s : St) (B : Option Addr) (c : Nat), cs = [.int .i64 s.r, .int .i64 s.p, .int .i64 s.d, .int .i64 s.m, .slice B s.es.length c] ∧ s.es.length ≤ maxLen ∧ s.es.length ≤ c ∧ EdsAt w B s.es := by
  obtain ⟨xs, n, _, hx, hcl, hlen, hg⟩ := DataW.trod_struct Try.underlying38 hf
  rw [cells38] at hcl
  match cs, hcl with
  | [c0, c1, c2, c3, c4], _ =>
    match xs, hlen with
    | [y0, y1, y2, y3, y4], _ =>
      have g0 := hg 0 _ rfl
      have g1 := hg 1 _ rfl
      have g2 := hg 2 _ rfl
      have g3 := hg 3 _ rfl
      have g4 := hg 4 _ rfl
      simp [cells3, cells36] at g0 g1 g2 g3 g4
      obtain ⟨z0, e0, _, w0⟩ := DataW.trod_int Try.underlying3 g0
      obtain ⟨z1, e1, _, w1⟩ := DataW.trod_int Try.underlying3 g1
      obtain ⟨z2, e2, _, w2⟩ := DataW.trod_int Try.underlying3 g2
      obtain ⟨z3, e3, _, w3⟩ := DataW.trod_int Try.underlying3 g3
      simp only [List.cons.injEq, and_true] at e0 e1 e2 e3
      subst e0 e1 e2 e3
      obtain ⟨B, c, es, rfl, hc, hm, hE⟩ := open_edges g4
      exact ⟨⟨_, _, _, _, es⟩, B, c, rfl, hm, hc, hE⟩
set_option maxRecDepth 100000 in
theorem open_steps_c {fuel : Nat} {v : Value} {y : DataW H × List MemPlace} (hf : DataW.trod enc Try.prog w 0 (fun _ => true) true fuel 22 [v] = some y) :
    ∃ (A : Option Addr) (n cap : Nat) (l : List St), v = .slice A n cap ∧ Sl w A n cap l := by
  rcases open_slice Try.underlying22 hf with ⟨hcs, _⟩ | ⟨a, len, cap, m, n, D, Pl, hcs, _, hl, hc, hm, _, hel⟩
  · simp only [List.cons.injEq, and_true] at hcs
    subst hcs
    exact ⟨none, 0, 0, [], rfl, .inl rfl, rfl, Nat.zero_le _, Nat.le_refl _⟩
  · simp only [List.cons.injEq, and_true] at hcs
    subst hcs
    simp only [if_true] at hm
    subst hm
    have each : ∀ i, i < len → ∃ s : St, ∃ B c, StAt w (a.add (i * 5)) s B c := by
      intro i hi
      obtain ⟨cs', h1, h2⟩ := hel i (by omega)
      rw [cells38] at h1
      obtain ⟨s, B, c, rfl, hm2, hc2, hE⟩ := open_step h2
      have q0 := (World.cells?_some h1).2.2 0 (by omega)
      have q1 := (World.cells?_some h1).2.2 1 (by omega)
      have q2 := (World.cells?_some h1).2.2 2 (by omega)
      have q3 := (World.cells?_some h1).2.2 3 (by omega)
      have q4 := (World.cells?_some h1).2.2 4 (by omega)
      rw [add_pos _ (by omega)] at q1 q2 q3 q4
      rw [add0] at q0
      exact ⟨s, B, c, q0, q1, q2, q3, q4, hm2, hc2, hE⟩
    obtain ⟨l, h1, h2⟩ := list_of len each
    refine ⟨some a, len, _, l, rfl, ?_, h1, by omega, hl⟩
    rcases Nat.eq_zero_or_pos len with e | e
    · exact .inl (List.length_eq_zero_iff.1 (by omega))
    · refine .inr ⟨a, rfl, ?_, fun i hi => ?_⟩
      · obtain ⟨o, B, c, ho⟩ := each 0 e
        have h0 := ho.c0
        rw [show a.add (0 * 5) = a from add0 a] at h0
        exact block_of h0
      · refine h2 i _ ?_
        unfold stA
        rw [List.getD_eq_getElem?_getD, List.getElem?_eq_getElem hi]
        rfl
theorem open_steps {r : Reach} {b0 : Nat} {v : Value} {d : DataW H} {p : List MemPlace} (hv : Value.okWide Try.prog w r b0 22 v) (h : DataW.Trod enc Try.prog w 0 (fun _ => true) true 22 v d p) :
    ∃ (A : Option Addr) (n cap : Nat) (l : List St), v = .slice A n cap ∧ Sl w A n cap l := by
  obtain ⟨a0, len, cap, rfl⟩ := okWide_slice Try.underlying22 hv
  obtain ⟨fuel, hf⟩ := h
  exact open_steps_c hf
theorem open_is {r : Reach} {b0 : Nat} {v : Value} {d : DataW H} {p : List MemPlace} (hv : Value.okWide Try.prog w r b0 28 v) (h : DataW.Trod enc Try.prog w 0 (fun _ => true) true 28 v d p) :
    ∃ (A : Option Addr) (n cap : Nat) (zs : List Int), v = .slice A n cap ∧ Il w A n zs ∧ n ≤ cap := by
  obtain ⟨a0, len, cap, rfl⟩ := okWide_slice Try.underlying28 hv
  obtain ⟨fuel, hf⟩ := h
  obtain ⟨A, n, c, zs, e, h1, h2, h3, h4⟩ := open_ilist hf
  exact ⟨A, n, c, zs, e, ⟨h4, h1, h3⟩, h2⟩
set_option maxRecDepth 100000 in
/-- Steps, codes, one that gets a code, and that. -/
theorem open_later {r : Reach} {b0 : Nat} {v : Value} {d : DataW H} {p : List MemPlace} (hv : Value.okWide Try.prog w r b0 42 v) (h : DataW.Trod enc Try.prog w 0 (fun _ => true) true 42 v d p) :
    ∃ (A : Option Addr) (n cap : Nat) (l : List St) (C : Option Addr) (m cc : Nat) (cs : List Int) (at_ code : Int), v = .agg #[.slice A n cap, .slice C m cc, .int .i64 at_, .int .i64 code] ∧ Sl w A n cap l ∧ Il w C m cs ∧ m ≤ cc := by
  obtain ⟨cs, rfl, hsz⟩ := okWide_struct Try.underlying42 hv
  obtain ⟨cs⟩ := cs
  obtain ⟨fuel, hf⟩ := h
  have hf' : DataW.trod enc Try.prog w 0 (fun _ => true) true fuel 42 cs = some (d, p) := hf
  obtain ⟨xs, n, _, hx, hcl, hlen, hg⟩ := DataW.trod_struct Try.underlying42 hf'
  rw [cells42] at hcl
  match cs, hcl with
  | [c0, c1, c2, c3], _ =>
    match xs, hlen with
    | [y0, y1, y2, y3], _ =>
      have g0 := hg 0 _ rfl
      have g1 := hg 1 _ rfl
      have g2 := hg 2 _ rfl
      have g3 := hg 3 _ rfl
      simp [cells3, cells22, cells28] at g0 g1 g2 g3
      obtain ⟨z2, e2, _, w2⟩ := DataW.trod_int Try.underlying3 g2
      obtain ⟨z3, e3, _, w3⟩ := DataW.trod_int Try.underlying3 g3
      simp only [List.cons.injEq, and_true] at e2 e3
      subst e2 e3
      obtain ⟨A, n, cap, l, rfl, hS⟩ := open_steps_c g0
      obtain ⟨C, m, cc, cs, rfl, h1, h2, h3, h4⟩ := open_ilist g1
      exact ⟨A, n, cap, l, C, m, cc, cs, _, _, rfl, hS, ⟨h4, h1, h3⟩, h2⟩
end
end Go.Proofs.Ytodgkjmkjahkiaa
