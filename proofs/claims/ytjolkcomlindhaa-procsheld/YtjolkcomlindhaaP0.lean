/- What each law's row needs: the last step; how a use, and a list of them, is read. -/
import Derived.Test.YtjolkcomlindhaaA3
import Derived.ProofKit
import Derived.Lib.SmallJoins
import Derived.Laws.IdiomArrays
import Derived.Carry
import Derived.ChangeSlices
import Derived.Deep.Slices
import Derived.OpenShut
namespace Go.Proofs.Ytjolkcomlindhaa
open Go.ChangeShapes Go.WideShapes Go.ChangeAt Go.WideMaps Go.WideElems Go.RowKit Go.Joins Go.Deep

theorem laidOut : laidOutB Try.prog = true := by kernel_rfl
theorem own : ownKnob Try.prog.godebug = none := by kernel_rfl
/-- Arguments that can be read, read behind the call as before: of what lay there nothing has turned. -/
theorem trodAll_below {H : Type} {enc : TypeId × Value → H} {P : Program} (hl : laidOutB P = true) {W W' : World} (hb : Below W.heap.size W W') :
    ∀ {ts : List TypeId} {vs : List Value} {ds : List (DataW H)} {ps : List MemPlace}, (ts.all fun t => P.readableRec t && decide (t < P.types.size)) = true →
      DataW.TrodAll enc P W 0 (fun _ => true) true ts vs ds ps → DataW.TrodAll enc P W' 0 (fun b => decide (b < W.heap.size)) true ts vs ds ps
  | [], [], [], _, _, h => h
  | [], _ :: _, _, _, _, h => h.elim
  | [], [], _ :: _, _, _, h => h.elim
  | _ :: _, [], _, _, _, h => h.elim
  | _ :: _, _ :: _, [], _, _, h => h.elim
  | t :: ts, v :: vs, d :: ds, ps, ht, h => by
    have hlt := h.lt
    obtain ⟨p, q, h1, h2, e⟩ := h
    simp only [List.all_cons, Bool.and_eq_true, decide_eq_true_eq] at ht
    refine ⟨p, q, Below.trod hl ht.1.1 ht.1.2 h1 hb (fun x hx => hlt x (by rw [e]; simp [hx])), trodAll_below hl hb ?_ h2, e⟩
    simpa using ht.2
set_option maxRecDepth 100000 in
theorem answerAll {H : Type} {enc : TypeId × Value → H} {f : Func} {sp : ChangeSpec} {W W' : World} {args : Array Value} {ds : List (DataW H)} {before : List MemPlace}
    (hvars : sp.vars = []) (hres0 : f.resultTypes = #[4]) (hfn : (sp.fn H (ds ++ [])).results = [.lit (.bool true)]) (hfa : (sp.fn H (ds ++ [])).args = ds) (hfv : (sp.fn H (ds ++ [])).vars = [])
    (hts : (f.params.toList.all fun t => Try.prog.readableRec t && decide (t < Try.prog.types.size)) = true)
    (hW : DataW.Whole enc Try.prog f.params.toList sp.vars false W args.toList ds [] before) (hb : Below W.heap.size W W') :
    sp.post enc Try.prog f false true false false W args (.bool true) W' := by
  have hW' := hW
  obtain ⟨p, q, hA, hV, e, _, _⟩ := hW'
  have hr : ∀ (b : Nat) (q : Nat → Bool) (hd : Bool), DataW.TrodAll enc Try.prog W' b q hd f.resultTypes.toList ((Value.bool true).resultList f.resultTypes.size) (sp.fn H (ds ++ [])).results [] := by
    intro b q hd
    rw [hres0, hfn]
    exact trodAll_cons_mk (shut_bool Try.underlying4 _) trodAll_mk0
  have ha : DataW.TrodAll enc Try.prog W' 0 (fun b => decide (b < W.heap.size)) true f.params.toList args.toList (sp.fn H (ds ++ [])).args p := by
    rw [hfa]
    exact trodAll_below laidOut hb hts hA
  have hv : ∀ q : Nat → Bool, DataW.TrodVars enc Try.prog W' q sp.vars (sp.fn H (ds ++ [])).vars [] := by
    intro q
    rw [hvars, hfv]
    rfl
  exact ⟨ds, [], before, [], p, [], hW, hr _ _ _, ha, hv _, hb.frame _, fun h => by cases h⟩


/-- A list of uses. -/
abbrev usC (u : Us) : List Value := [.int .i64 u.j, .int .i64 u.c, .int .i64 u.f, .int .i64 u.t]
def Scr (w : World) (A : Option Addr) (os : List Us) : Prop := os = [] ∨ ∃ ad, A = some ad ∧ ad.block < w.heap.size ∧ ∀ i o, os[i]? = some o → ∀ k, k < 4 → w.cell? (ad.add (i * 4 + k)) = (usC o)[k]?
theorem add_add (a : Addr) (m n : Nat) : (a.add m).add n = a.add (m + n) := by
  unfold Addr.add
  by_cases hm : m = 0
  · subst hm; simp
  · by_cases hn : n = 0
    · subst hn; simp [hm]
    · simp [hm, hn, Nat.add_assoc]
theorem Scr.next {w w' : World} {A : Option Addr} {os : List Us} (h : Scr w A os) (hb : Below w.heap.size w w') : Scr w' A os := by
  rcases h with e | ⟨ad, e, h1, h2⟩
  · exact .inl e
  · exact .inr ⟨ad, e, Nat.lt_of_lt_of_le h1 hb.size, fun i o hi k hk => (hb.cell (p := ad.add (i * 4 + k)) (by rw [block_add]; exact h1)).trans (h2 i o hi k hk)⟩
/-- A use at a place. -/
structure UsAt (w : World) (e : Addr) (o : Us) : Prop where
  c0 : w.cell? e = some (.int .i64 o.j)
  c1 : w.cell? ⟨e.block, e.off + 1, none⟩ = some (.int .i64 o.c)
  c2 : w.cell? ⟨e.block, e.off + 2, none⟩ = some (.int .i64 o.f)
  c3 : w.cell? ⟨e.block, e.off + 3, none⟩ = some (.int .i64 o.t)
theorem add_pos (a : Addr) {n : Nat} (h : n ≠ 0) : a.add n = ⟨a.block, a.off + n, none⟩ := by unfold Addr.add; simp [h]
theorem Scr.at_ {w : World} {A : Option Addr} {os : List Us} (h : Scr w A os) {i : Nat} (hi : i < os.length) : ∃ ad o, A = some ad ∧ os[i]? = some o ∧ UsAt w (ad.add (i * 4)) o := by
  rcases h with rfl | ⟨ad, rfl, h1, h2⟩
  · cases hi
  · have e := List.getElem?_eq_getElem hi
    have hc := h2 i _ e
    have q1 := hc 1 (by omega)
    have q2 := hc 2 (by omega)
    have q3 := hc 3 (by omega)
    rw [← add_add, add_pos _ (by omega)] at q1 q2 q3
    exact ⟨ad, os[i], rfl, e, hc 0 (by omega), q1, q2, q3⟩
/-- Whatever is made, it lies there still. -/
theorem Scr.still {w : World} {A : Option Addr} {os : List Us} (h : Scr w A os) {i : Nat} (hi : i < os.length) : ∃ ad o, A = some ad ∧ os[i]? = some o ∧ ∀ V, Below w.heap.size w V → UsAt V (ad.add (i * 4)) o := by
  obtain ⟨ad, o, rfl, h2, h3⟩ := h.at_ hi
  refine ⟨ad, o, rfl, h2, fun V hb => ?_⟩
  obtain ⟨ad', o', e1, e2, e3⟩ := (h.next hb).at_ hi
  cases e1
  rw [h2] at e2
  cases e2
  exact e3
section
variable {H : Type} {enc : TypeId × Value → H} {w : World}
theorem cells3 : Try.prog.cellsOf 3 = 1 := by kernel_rfl
theorem cells23 : Try.prog.cellsOf 23 = 4 := by kernel_rfl
set_option maxRecDepth 100000 in
theorem open_use_c {fuel : Nat} {cs : List Value} {y : DataW H × List MemPlace} (hf : DataW.trod enc Try.prog w 0 (fun _ => true) true fuel 23 cs = some y) : ∃ u : Us, cs = usC u := by
  obtain ⟨xs, n, _, hx, hcl, hlen, hg⟩ := DataW.trod_struct Try.underlying23 hf
  rw [cells23] at hcl
  match cs, hcl with
  | [c0, c1, c2, c3], _ =>
    match xs, hlen with
    | [y0, y1, y2, y3], _ =>
      have g0 := hg 0 _ rfl
      have g1 := hg 1 _ rfl
      have g2 := hg 2 _ rfl
      have g3 := hg 3 _ rfl
      simp [cells3] at g0 g1 g2 g3
      obtain ⟨z0, e0, _, w0⟩ := DataW.trod_int Try.underlying3 g0
      obtain ⟨z1, e1, _, w1⟩ := DataW.trod_int Try.underlying3 g1
      obtain ⟨z2, e2, _, w2⟩ := DataW.trod_int Try.underlying3 g2
      obtain ⟨z3, e3, _, w3⟩ := DataW.trod_int Try.underlying3 g3
      simp only [List.cons.injEq, and_true] at e0 e1 e2 e3
      subst e0 e1 e2 e3
      exact ⟨⟨_, _, _, _, w0, w1, w2, w3⟩, rfl⟩
set_option maxRecDepth 100000 in
theorem open_use {r : Reach} {b0 : Nat} {v : Value} {d : DataW H} {p : List MemPlace} (hv : Value.okWide Try.prog w r b0 23 v) (h : DataW.Trod enc Try.prog w 0 (fun _ => true) true 23 v d p) : ∃ u : Us, v = u.v := by
  obtain ⟨cs, rfl, hsz⟩ := okWide_struct Try.underlying23 hv
  obtain ⟨cs⟩ := cs
  obtain ⟨fuel, hf⟩ := h
  have hf' : DataW.trod enc Try.prog w 0 (fun _ => true) true fuel 23 cs = some (d, p) := hf
  obtain ⟨u, rfl⟩ := open_use_c hf'
  exact ⟨u, rfl⟩
theorem list_of {α : Type} {Q : Nat → α → Prop} : ∀ n : Nat, (∀ i, i < n → ∃ o, Q i o) → ∃ os : List α, os.length = n ∧ ∀ i o, os[i]? = some o → Q i o
  | 0, _ => ⟨[], rfl, fun i o h => by simp at h⟩
  | n + 1, h => by
    obtain ⟨os, h1, h2⟩ := list_of n (fun i hi => h i (by omega))
    obtain ⟨o, ho⟩ := h n (by omega)
    refine ⟨os ++ [o], by simp [h1], fun i x hx => ?_⟩
    by_cases hi : i < n
    · rw [List.getElem?_append_left (by omega)] at hx
      exact h2 i x hx
    · have hlt := (List.getElem?_eq_some_iff.1 hx).1
      simp at hlt
      obtain rfl : i = n := by omega
      rw [List.getElem?_append_right (by omega), h1] at hx
      simp at hx
      subst hx
      exact ho
set_option maxRecDepth 100000 in
theorem open_uses_c {fuel : Nat} {v : Value} {y : DataW H × List MemPlace} (hf : DataW.trod enc Try.prog w 0 (fun _ => true) true fuel 33 [v] = some y) :
    ∃ (A : Option Addr) (n cap : Nat) (os : List Us), v = .slice A n cap ∧ Scr w A os ∧ os.length = n ∧ n ≤ maxLen := by
  rcases open_slice Try.underlying33 hf with ⟨hcs, _⟩ | ⟨a, len, cap, m, n, D, Pl, hcs, _, hl, hc, hm, _, hel⟩
  · simp only [List.cons.injEq, and_true] at hcs
    subst hcs
    exact ⟨none, 0, 0, [], rfl, .inl rfl, rfl, Nat.zero_le _⟩
  · simp only [List.cons.injEq, and_true] at hcs
    subst hcs
    simp only [if_true] at hm
    subst hm
    have each : ∀ i, i < len → ∃ o : Us, ∀ k, k < 4 → w.cell? (a.add (i * 4 + k)) = (usC o)[k]? := by
      intro i hi
      obtain ⟨cs', h1, h2⟩ := hel i (by omega)
      rw [cells23] at h1
      obtain ⟨o, rfl⟩ := open_use_c h2
      refine ⟨o, fun k hk => ?_⟩
      have h3 := (World.cells?_some h1).2.2 k hk
      rw [add_add] at h3
      exact h3
    obtain ⟨os, h1, h2⟩ := list_of len each
    refine ⟨some a, len, _, os, rfl, ?_, h1, by omega⟩
    rcases Nat.eq_zero_or_pos len with e | e
    · exact .inl (List.length_eq_zero_iff.1 (by omega))
    · refine .inr ⟨a, rfl, ?_, h2⟩
      obtain ⟨o, ho⟩ := each 0 e
      have h0 := ho 0 (by omega)
      rw [show a.add (0 * 4 + 0) = a from by unfold Addr.add; simp] at h0
      rcases Nat.lt_or_ge a.block w.heap.size with h2 | h2
      · exact h2
      · rw [World.cell?, Array.getElem?_eq_none h2] at h0
        simp at h0
set_option maxRecDepth 100000 in
theorem open_uses {r : Reach} {b0 : Nat} {v : Value} {d : DataW H} {p : List MemPlace} (hv : Value.okWide Try.prog w r b0 33 v) (h : DataW.Trod enc Try.prog w 0 (fun _ => true) true 33 v d p) :
    ∃ (A : Option Addr) (n cap : Nat) (os : List Us), v = .slice A n cap ∧ Scr w A os ∧ os.length = n ∧ n ≤ maxLen := by
  obtain ⟨a0, len, cap, rfl⟩ := okWide_slice Try.underlying33 hv
  obtain ⟨fuel, hf⟩ := h
  exact open_uses_c hf
end
end Go.Proofs.Ytjolkcomlindhaa
