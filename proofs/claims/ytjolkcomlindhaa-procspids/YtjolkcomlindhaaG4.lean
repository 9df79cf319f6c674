/- A table: Release, Exit, Signal, Signalled; of none. -/
import Derived.Test.YtjolkcomlindhaaG3
namespace Go.Proofs.Ytjolkcomlindhaa
open Go.RowKit Go.Shelf Go.Maps Go.Sort

/-- What may have turned: the table's block, its map's, and its processes. -/
structure Tt (w w' : World) (p : Nat) (m : Option Nat) (T : List Pr) : Prop where
  os : w'.os = w.os
  tape : w'.tape = w.tape
  output : w'.output = w.output
  size : w.heap.size ≤ w'.heap.size
  block : ∀ i, i < w.heap.size → i ≠ p → m ≠ some i → (∀ x ∈ T, x.b ≠ i) → w'.heap[i]? = w.heap[i]?
theorem Tt.of_below {w w' : World} {p : Nat} {m : Option Nat} {T : List Pr} (h : Below w.heap.size w w') : Tt w w' p m T := ⟨h.os, h.tape, h.output, h.size, fun i hi _ _ _ => h.block i hi⟩
theorem Tt.of_proc {w w' : World} {p : Nat} {m : Option Nat} {T : List Pr} {x : Pr} (h : w.grownBy w' (some x.b)) (hx : x ∈ T) : Tt w w' p m T :=
  ⟨h.os, h.tape, h.output, h.size, fun i hi _ _ hc => h.block i hi (fun e => by injection e with e; exact hc x hx e.symm)⟩
/-- One process is another. -/
def updP (T : List Pr) (x' : Pr) : List Pr := T.map fun y => if y.pid = x'.pid then x' else y
theorem lookP_upd_ne {T : List Pr} {x' : Pr} {n : Int} (hn : n ≠ x'.pid) : lookP (updP T x') n = lookP T n := by
  induction T with
  | nil => rfl
  | cons y r ih =>
    rw [show updP (y :: r) x' = (if y.pid = x'.pid then x' else y) :: updP r x' from rfl]
    by_cases e : y.pid = x'.pid
    · rw [if_pos e]
      unfold lookP
      rw [if_neg (fun q => hn q.symm), if_neg (by omega)]
      exact ih
    · rw [if_neg e]
      unfold lookP
      rw [ih]
theorem lookP_upd_eq {T : List Pr} {x x' : Pr} (hx : lookP T x'.pid = some x) : lookP (updP T x') x'.pid = some x' := by
  induction T with
  | nil => cases hx
  | cons y r ih =>
    rw [show updP (y :: r) x' = (if y.pid = x'.pid then x' else y) :: updP r x' from rfl]
    by_cases e : y.pid = x'.pid
    · rw [if_pos e]
      unfold lookP
      rw [if_pos rfl]
    · rw [if_neg e]
      unfold lookP at hx ⊢
      rw [if_neg e] at hx ⊢
      exact ih hx
theorem mem_upd {T : List Pr} {x' y : Pr} (h : y ∈ updP T x') : y = x' ∨ (y ∈ T ∧ y.pid ≠ x'.pid) := by
  obtain ⟨z, hz, e⟩ := List.mem_map.1 h
  split at e
  · exact .inl e.symm
  · rename_i hne
    subst e
    exact .inr ⟨hz, hne⟩
section
variable {w w' : World} {p k : Nat} {m : Option Nat} {N : Int} {T : List Pr} {x x' : Pr}
/-- One process has turned. -/
theorem TbAt.upd (h : TbAt w p m k N T) (hx : lookP T x'.pid = some x) (e1 : x'.b = x.b) (e2 : x'.A = x.A) (e3 : x'.cs = x.cs) (hg : w.grownBy w' (some x.b)) (hb : Bk w' x.b 93 x'.cells) : TbAt w' p m k N (updP T x') ∧ Tt w w' p m T := by
  obtain ⟨hm, hp⟩ := lookP_mem hx
  have hpx := h.procs x hm
  have hne : ∀ y ∈ T, y.pid ≠ x'.pid → y.b ≠ x.b := fun y hy hyp e => by
    have : x = y ∨ x.b ≠ y.b := by
      clear hx hg hb hpx hyp
      have ha := h.apart
      clear h
      induction T with
      | nil => cases hm
      | cons z r ih =>
        have h' := List.pairwise_cons.1 ha
        rcases List.mem_cons.1 hm with q1 | q1 <;> rcases List.mem_cons.1 hy with q2 | q2
        · exact .inl (q1.trans q2.symm)
        · subst q1; exact .inr (h'.1 y q2)
        · subst q2; exact .inr (fun q => h'.1 x q1 q.symm)
        · exact ih q1 q2 h'.2
    rcases this with q | q
    · subst q; exact hyp hp
    · exact q e.symm
  have csk : ∀ {A : Option Addr} {zs : List Int}, Cs w A zs → Cs w' A zs := fun {A zs} q => by
    have hblk : ∀ ad, A = some ad → w'.heap[ad.block]? = w.heap[ad.block]? := fun ad e => by
      obtain ⟨cur, hc⟩ := q.cells ad e
      refine hg.block _ (Array.getElem?_eq_some_iff.1 hc).1 (fun q => ?_)
      injection q with q
      have hk := hpx.blk
      unfold Bk at hk
      rw [← q, hc] at hk
      injection hk with hk
      injection hk with _ hk
      cases hk
    refine ⟨?_, fun ad e => ?_⟩
    · rcases q.ints with e | ⟨ad, e, h1, h2⟩
      · exact .inl e
      · refine .inr ⟨ad, e, Nat.lt_of_lt_of_le h1 hg.size, fun j hj => ?_⟩
        rw [← h2 j hj]
        simp only [World.cell?, block_add, hblk ad e]
    · obtain ⟨cur, hc⟩ := q.cells ad e
      exact ⟨cur, (hblk ad e).trans hc⟩
  have npx : p ≠ x.b := fun e => by
    have hk := hpx.blk
    have hk2 := h.blk
    unfold Bk at hk hk2
    rw [← e, hk2] at hk
    injection hk with hk
    injection hk with _ hk
    cases hk
  refine ⟨⟨h.blk.grown hg npx, fun e => by rw [h.none_ e]; rfl, fun b e => ?_, fun y hy => ?_, ?_, ?_, fun y hy => ?_, h.few⟩, Tt.of_proc hg hm⟩
  · obtain ⟨D, h1, h2⟩ := h.own b e
    have nb := not_map hpx.blk h1
    refine ⟨D, h1.kept hg (by simpa using nb.symm), h2.congr fun n => ?_⟩
    by_cases en : n = x'.pid
    · subst en
      rw [lookP_upd_eq hx, hx]
      simp [e1]
    · rw [lookP_upd_ne en]
  · rcases mem_upd hy with rfl | ⟨hy1, hy2⟩
    · exact ⟨by rw [e1]; exact hb, by rw [e2, e3]; exact csk hpx.cs, by rw [e3]; exact hpx.len⟩
    · have q := h.procs y hy1
      exact ⟨q.blk.grown hg (hne y hy1 hy2), csk q.cs, q.len⟩
  · refine List.pairwise_map.2 (h.up.imp ?_)
    intro a b hab
    split <;> split <;> omega
  · have hup := h.up
    have hap := h.apart
    have : ∀ a ∈ T, (if a.pid = x'.pid then x' else a).b = a.b := fun a ha => by
      split
      · rename_i e
        have : a = x := by
          have := lookP_of_mem h.up ha
          rw [e, hx] at this
          injection this with this
          exact this.symm
        rw [this, e1]
      · rfl
    refine List.pairwise_map.2 ?_
    refine List.Pairwise.imp_of_mem ?_ hap
    intro a b ha hb' hab
    rw [this a ha, this b hb']
    exact hab
  · rcases mem_upd hy with rfl | ⟨hy1, _⟩
    · have := h.pids x hm
      rw [hp] at this
      exact this
    · exact h.pids y hy1
end
end Go.Proofs.Ytjolkcomlindhaa
