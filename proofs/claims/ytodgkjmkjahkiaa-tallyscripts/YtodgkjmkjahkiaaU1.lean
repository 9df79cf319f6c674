/- The document's tally in memory; New. -/
import Derived.Test.YtodgkjmkjahkiaaT8
import Derived.Laws.OwnMore
namespace Go.Proofs.Ytodgkjmkjahkiaa
open Go.RowKit Go.Maps

theorem own_blk {w : World} {base size n g : Nat} {e : TypeId} {v : Value} {xs : List Value} (h : w.ownsRow base e size v n xs) (hb : v.ownBlock = some g) : base ≤ g ∧ g < w.heap.size := by
  rcases h.2 with ⟨rfl, _⟩ | ⟨g', c, cu, rfl, h2, h3, _⟩
  · simp [Value.ownBlock] at hb
  · have e : g' = g := by simpa [Value.ownBlock] using hb
    subst e
    exact ⟨h2, (Array.getElem?_eq_some_iff.1 h3).1⟩
theorem own_kept {w w' : World} {base size n : Nat} {e : TypeId} {v : Value} {xs : List Value} {o : Option Nat} (h : w.ownsRow base e size v n xs) (hg : w.grownBy w' o) (hne : ∀ g, v.ownBlock = some g → o ≠ some g) : w'.ownsRow base e size v n xs := by
  refine ⟨h.1, ?_⟩
  rcases h.2 with h0 | ⟨g, cap, cur, h1, h2, h3, h4⟩
  · exact .inl h0
  · subst h1
    exact .inr ⟨g, cap, cur, rfl, h2, (hg.block g (Array.getElem?_eq_some_iff.1 h3).1 (fun q => hne g (by simp [Value.ownBlock]) q.symm)).trans h3, h4⟩
/-- The document's tally: its struct, and its three lists. -/
structure RIn (w : World) (q : Nat) (va vb vc : Value) (na nb nc : Nat) (ns vs cs : List Int) : Prop where
  blk : Bk w q 72 #[va, vb, vc]
  ra : w.ownsRow (q + 1) 3 1 va na (iv ns)
  rb : w.ownsRow (q + 1) 3 1 vb nb (iv vs)
  rc : w.ownsRow (q + 1) 3 1 vc nc (iv cs)
  ab : ∀ g, va.ownBlock = some g → vb.ownBlock ≠ some g
  ac : ∀ g, va.ownBlock = some g → vc.ownBlock ≠ some g
  bc : ∀ g, vb.ownBlock = some g → vc.ownBlock ≠ some g
theorem RIn.pushA {w w6 : World} {q na nb nc : Nat} {va vb vc va' : Value} {ns vs cs : List Int} {x : Int} (h : RIn w q va vb vc na nb nc ns vs cs) (hown : w6.ownsRow (q + 1) 3 1 va' (na + 1) (iv ns ++ [.int .i64 x])) (hg : (w.alloc (.cells #[.int .i64 x] 3)).grownBy w6 va.ownBlock) (hat : va'.ownBlock = va.ownBlock ∨ va'.ownBlock = some (w.alloc (.cells #[.int .i64 x] 3)).heap.size) :
    RIn (w6.setCell ⟨q, 0, none⟩ va') q va' vb vc (na + 1) nb nc (ns ++ [x]) vs cs ∧ Below q w (w6.setCell ⟨q, 0, none⟩ va') := by
  have hq := h.blk.lt
  have hqn : va.ownBlock ≠ some q := fun e => by have := (own_blk h.ra e).1; omega
  have hb := h.blk.alloc (.cells #[.int .i64 x] 3)
  have hb6 : Bk w6 q 72 #[va, vb, vc] := (hg.block q hb.lt (fun e => hqn e.symm)).trans hb
  refine ⟨⟨by simpa using hb6.set 0 va', ?_, ?_, ?_, ?_, ?_, h.bc⟩, ?_⟩
  · rw [iv_snoc]
    exact ownsRow_setCell_below hown (by simp) _
  · exact ownsRow_setCell_below (own_kept (h.rb.alloc _) hg (fun g e e2 => h.ab g e2 e)) (by simp) _
  · exact ownsRow_setCell_below (own_kept (h.rc.alloc _) hg (fun g e e2 => h.ac g e2 e)) (by simp) _
  · intro g e e2
    have := (own_blk h.rb e2).2
    rcases hat with e3 | e3
    · exact h.ab g (e3.symm.trans e) e2
    · rw [e3] at e; cases e; simp at this; omega
  · intro g e e2
    have := (own_blk h.rc e2).2
    rcases hat with e3 | e3
    · exact h.ac g (e3.symm.trans e) e2
    · rw [e3] at e; cases e; simp at this; omega
  · have hlo := (below_alloc w (.cells #[.int .i64 x] 3)).mono (Nat.le_of_lt hq)
    refine Below.setCell (hlo.grown hg (by rw [size_alloc]; omega) (fun j e => ?_)) (Nat.le_refl _) _
    have := (own_blk h.ra e).1
    omega
theorem RIn.pushB {w w6 : World} {q na nb nc : Nat} {va vb vc vb' : Value} {ns vs cs : List Int} {x : Int} (h : RIn w q va vb vc na nb nc ns vs cs) (hown : w6.ownsRow (q + 1) 3 1 vb' (nb + 1) (iv vs ++ [.int .i64 x])) (hg : (w.alloc (.cells #[.int .i64 x] 3)).grownBy w6 vb.ownBlock) (hat : vb'.ownBlock = vb.ownBlock ∨ vb'.ownBlock = some (w.alloc (.cells #[.int .i64 x] 3)).heap.size) :
    RIn (w6.setCell ⟨q, 1, none⟩ vb') q va vb' vc na (nb + 1) nc ns (vs ++ [x]) cs ∧ Below q w (w6.setCell ⟨q, 1, none⟩ vb') := by
  have hq := h.blk.lt
  have hqn : vb.ownBlock ≠ some q := fun e => by have := (own_blk h.rb e).1; omega
  have hb := h.blk.alloc (.cells #[.int .i64 x] 3)
  have hb6 : Bk w6 q 72 #[va, vb, vc] := (hg.block q hb.lt (fun e => hqn e.symm)).trans hb
  refine ⟨⟨by simpa using hb6.set 1 vb', ?_, ?_, ?_, ?_, h.ac, ?_⟩, ?_⟩
  · exact ownsRow_setCell_below (own_kept (h.ra.alloc _) hg (fun g e e2 => h.ab g e e2)) (by simp) _
  · rw [iv_snoc]
    exact ownsRow_setCell_below hown (by simp) _
  · exact ownsRow_setCell_below (own_kept (h.rc.alloc _) hg (fun g e e2 => h.bc g e2 e)) (by simp) _
  · intro g e e2
    have := (own_blk h.ra e).2
    rcases hat with e3 | e3
    · exact h.ab g e (e3.symm.trans e2)
    · rw [e3] at e2; cases e2; simp at this; omega
  · intro g e e2
    have := (own_blk h.rc e2).2
    rcases hat with e3 | e3
    · exact h.bc g (e3.symm.trans e) e2
    · rw [e3] at e; cases e; simp at this; omega
  · have hlo := (below_alloc w (.cells #[.int .i64 x] 3)).mono (Nat.le_of_lt hq)
    refine Below.setCell (hlo.grown hg (by rw [size_alloc]; omega) (fun j e => ?_)) (Nat.le_refl _) _
    have := (own_blk h.rb e).1
    omega
theorem RIn.pushC {w w6 : World} {q na nb nc : Nat} {va vb vc vc' : Value} {ns vs cs : List Int} {x : Int} (h : RIn w q va vb vc na nb nc ns vs cs) (hown : w6.ownsRow (q + 1) 3 1 vc' (nc + 1) (iv cs ++ [.int .i64 x])) (hg : (w.alloc (.cells #[.int .i64 x] 3)).grownBy w6 vc.ownBlock) (hat : vc'.ownBlock = vc.ownBlock ∨ vc'.ownBlock = some (w.alloc (.cells #[.int .i64 x] 3)).heap.size) :
    RIn (w6.setCell ⟨q, 2, none⟩ vc') q va vb vc' na nb (nc + 1) ns vs (cs ++ [x]) ∧ Below q w (w6.setCell ⟨q, 2, none⟩ vc') := by
  have hq := h.blk.lt
  have hqn : vc.ownBlock ≠ some q := fun e => by have := (own_blk h.rc e).1; omega
  have hb := h.blk.alloc (.cells #[.int .i64 x] 3)
  have hb6 : Bk w6 q 72 #[va, vb, vc] := (hg.block q hb.lt (fun e => hqn e.symm)).trans hb
  refine ⟨⟨by simpa using hb6.set 2 vc', ?_, ?_, ?_, h.ab, ?_, ?_⟩, ?_⟩
  · exact ownsRow_setCell_below (own_kept (h.ra.alloc _) hg (fun g e e2 => h.ac g e e2)) (by simp) _
  · exact ownsRow_setCell_below (own_kept (h.rb.alloc _) hg (fun g e e2 => h.bc g e e2)) (by simp) _
  · rw [iv_snoc]
    exact ownsRow_setCell_below hown (by simp) _
  · intro g e e2
    have := (own_blk h.ra e).2
    rcases hat with e3 | e3
    · exact h.ac g e (e3.symm.trans e2)
    · rw [e3] at e2; cases e2; simp at this; omega
  · intro g e e2
    have := (own_blk h.rb e).2
    rcases hat with e3 | e3
    · exact h.bc g e (e3.symm.trans e2)
    · rw [e3] at e2; cases e2; simp at this; omega
  · have hlo := (below_alloc w (.cells #[.int .i64 x] 3)).mono (Nat.le_of_lt hq)
    refine Below.setCell (hlo.grown hg (by rw [size_alloc]; omega) (fun j e => ?_)) (Nat.le_refl _) _
    have := (own_blk h.rc e).1
    omega
/-- An append of one number, inside a region that draws. -/
theorem app_i {ops : Array Oper} {o : Oper} {a : Act} {w : World} {K : Act → World → Prop} {Q : Exit → Act → World → Prop} {E : Prop} (hgd : o.guard = none) (s y : Operand)
    (ho : o.op = .call { callee := .builtin .append, args := #[s, y], argTypes := #[28, 28] }) (B n : Nat) (v : Value) (xs : List Value) (x : Int) (hs : a.eval s = v) (hown : w.ownsRow B 3 1 v n xs)
    (g1 c : Nat) (hx : a.eval y = .slice (some ⟨g1, 0, none⟩) 1 c) (hn : Bk w g1 3 #[.int .i64 x]) (hl : n ≤ 1000) (hB : B ≤ w.heap.size)
    (h : ∀ v' w', w'.ownsRow B 3 1 v' (n + 1) (xs ++ [.int .i64 x]) → w.grownBy w' v.ownBlock → (v'.ownBlock = v.ownBlock ∨ v'.ownBlock = some w.heap.size) → K (a.put o.dst v') w') : if Region.wanted o (yielded ops a.tmps) = true then Oper.wp Try.prog o a w K Q else E := by
  have hw : Region.wanted o (yielded ops a.tmps) = true := by simp [Region.wanted, hgd]
  rw [if_pos hw]
  obtain ⟨i, hi, hz0, hz1, hz2⟩ := info_parts info3
  obtain ⟨v', w', hr, h2, h3, h4, h5⟩ := run_append_own_at (P := Try.prog) w B 28 o.type 3 i _ 1 8 Try.underlying28 hi hz0 hz1 hz2 rfl (by decide) v n xs hown ⟨g1, 0, none⟩ 1 c [.int .i64 x] rfl (fun j u hj => by
    have hadd : (⟨g1, 0, none⟩ : Addr).add j = ⟨g1, j, none⟩ := by unfold Addr.add; split <;> simp_all
    rw [hadd]
    exact hn.cell j u (by simpa using hj)) (by simp [Value.oneCell']) (by unfold maxLen; omega) (by omega) hB
  unfold Oper.wp execOp
  simp only [ho, resolve, invoke, builtin, Sem.run_bind, Sem.run_pure, Result.andThen_ok, List.map_toArray, List.map_cons, List.map_nil, hs, hx, hr]
  exact h v' w' h2 h3 h5
end Go.Proofs.Ytodgkjmkjahkiaa
