/- Tasks told, while a table turns; whether two lists are the same. -/
import Derived.Test.YtjolkcomlindhaaQ2
namespace Go.Proofs.Ytjolkcomlindhaa
open Go.RowKit Go.Shelf Go.Maps Go.Sort

section
variable {V V' : World} {p k B : Nat} {m : Option Nat} {N : Int} {T T0 Q : List Pr} {v : Value}
theorem Cs.tt {A : Option Addr} {zs : List Int} (q : Cs V A zs) (h : TbAt V p m k N T) (t : Tt V V' p m T) : Cs V' A zs := by
  have hblk : ∀ ad, A = some ad → V'.heap[ad.block]? = V.heap[ad.block]? := fun ad e => by
    obtain ⟨cur, hc⟩ := q.cells ad e
    have hk : Bk V ad.block 3 cur := hc
    rw [hc]
    exact hk.tt h t (by decide) (by decide)
  refine ⟨?_, fun ad e => ?_⟩
  · rcases q.ints with e | ⟨ad, e, h1, h2⟩
    · exact .inl e
    · refine .inr ⟨ad, e, Nat.lt_of_lt_of_le h1 t.size, fun j hj => ?_⟩
      rw [← h2 j hj]
      simp only [World.cell?, block_add, hblk ad e]
  · obtain ⟨cur, hc⟩ := q.cells ad e
    exact ⟨cur, (hblk ad e).trans hc⟩
theorem Told.next (h : Told V B v Q T0) (hb : Below V.heap.size V V') : Told V' B v Q T0 :=
  ⟨own_next h.row hb, fun x hx => (h.cs x hx).next hb, h.len, h.same⟩
theorem Told.tt (h : Told V B v Q T0) (ht : TbAt V p m k N T) (t : Tt V V' p m T) : Told V' B v Q T0 := by
  refine ⟨⟨h.row.1, ?_⟩, fun x hx => (h.cs x hx).tt ht t, h.len, h.same⟩
  rcases h.row.2 with h0 | ⟨g, cap, cur, h1, h2, h3, h4⟩
  · exact .inl h0
  · have hk : Bk V g 61 cur := h3
    exact .inr ⟨g, cap, cur, h1, h2, hk.tt ht t (by decide) (by decide), h4⟩
end
theorem sameT.symm {x y : Pr} (h : sameT x y) : sameT y x := ⟨h.1.symm, h.2.1.symm, h.2.2.1.symm, h.2.2.2.1.symm, h.2.2.2.2.1.symm, h.2.2.2.2.2.1.symm, h.2.2.2.2.2.2.1.symm, h.2.2.2.2.2.2.2.symm⟩
theorem sameT.trans {x y z : Pr} (h : sameT x y) (g : sameT y z) : sameT x z := ⟨h.1.trans g.1, h.2.1.trans g.2.1, h.2.2.1.trans g.2.2.1, h.2.2.2.1.trans g.2.2.2.1, h.2.2.2.2.1.trans g.2.2.2.2.1, h.2.2.2.2.2.1.trans g.2.2.2.2.2.1, h.2.2.2.2.2.2.1.trans g.2.2.2.2.2.2.1, h.2.2.2.2.2.2.2.trans g.2.2.2.2.2.2.2⟩
/-- The eight cells of a task, in whatever world. -/
structure Tk8 (w : World) (e : Addr) (x : Pr) : Prop where
  c : w.cell? e = some (.int .i64 x.pid) ∧ w.cell? ⟨e.block, e.off + 1, none⟩ = some (.int .i64 x.j) ∧ w.cell? ⟨e.block, e.off + 2, none⟩ = some (.int .i64 x.e) ∧ w.cell? ⟨e.block, e.off + 3, none⟩ = some (.int .i64 x.s) ∧ w.cell? ⟨e.block, e.off + 4, none⟩ = some (.int .i64 x.r) ∧ w.cell? ⟨e.block, e.off + 5, none⟩ = some (.slice x.A x.cs.length x.cap) ∧ w.cell? ⟨e.block, e.off + 6, none⟩ = some (.int .i64 x.st) ∧ w.cell? ⟨e.block, e.off + 7, none⟩ = some (.int .i64 x.code)
theorem TkAt.in_ {w : World} {e : Addr} {x : Pr} (h : TkAt w e x) (he : e.block < w.heap.size) :
    (∀ n : Mo.In w.heap.size w, n.val.cell? e = some (.int .i64 x.pid)) ∧ (∀ n : Mo.In w.heap.size w, n.val.cell? ⟨e.block, e.off + 1, none⟩ = some (.int .i64 x.j)) ∧ (∀ n : Mo.In w.heap.size w, n.val.cell? ⟨e.block, e.off + 2, none⟩ = some (.int .i64 x.e)) ∧ (∀ n : Mo.In w.heap.size w, n.val.cell? ⟨e.block, e.off + 3, none⟩ = some (.int .i64 x.s)) ∧ (∀ n : Mo.In w.heap.size w, n.val.cell? ⟨e.block, e.off + 4, none⟩ = some (.int .i64 x.r)) ∧ (∀ n : Mo.In w.heap.size w, n.val.cell? ⟨e.block, e.off + 5, none⟩ = some (.slice x.A x.cs.length x.cap)) ∧ (∀ n : Mo.In w.heap.size w, n.val.cell? ⟨e.block, e.off + 6, none⟩ = some (.int .i64 x.st)) ∧ (∀ n : Mo.In w.heap.size w, n.val.cell? ⟨e.block, e.off + 7, none⟩ = some (.int .i64 x.code)) :=
  ⟨Mo.In.cell (p := e) he h.c0, Mo.In.cell (p := ⟨e.block, e.off + 1, none⟩) he h.c1, Mo.In.cell (p := ⟨e.block, e.off + 2, none⟩) he h.c2, Mo.In.cell (p := ⟨e.block, e.off + 3, none⟩) he h.c3, Mo.In.cell (p := ⟨e.block, e.off + 4, none⟩) he h.c4, Mo.In.cell (p := ⟨e.block, e.off + 5, none⟩) he h.c5, Mo.In.cell (p := ⟨e.block, e.off + 6, none⟩) he h.c6, Mo.In.cell (p := ⟨e.block, e.off + 7, none⟩) he h.c7⟩
/-- A list of tasks, as it is read. -/
structure Tks (V : World) (A : Option Addr) (Q : List Pr) : Prop where
  at_ : ∀ i x, Q[i]? = some x → ∃ ad, A = some ad ∧ ad.block < V.heap.size ∧ TkAt V (ad.add (i * 8)) x
  cs : ∀ x ∈ Q, IntsAt V x.A x.cs
  few : ∀ x ∈ Q, x.cs.length ≤ 1000
theorem Tks.next {V V' : World} {A : Option Addr} {Q : List Pr} (h : Tks V A Q) (hb : Below V.heap.size V V') : Tks V' A Q :=
  ⟨fun i x hx => by
    obtain ⟨ad, e, h1, h2⟩ := h.at_ i x hx
    exact ⟨ad, e, Nat.lt_of_lt_of_le h1 hb.size, h2.next (by rw [block_add]; exact h1) hb⟩, fun x hx => (h.cs x hx).next hb, h.few⟩
theorem Told.tks {V : World} {B cap : Nat} {A : Option Addr} {Q T : List Pr} (h : Told V B (.slice A Q.length cap) Q T) (hT : ∀ x ∈ T, x.cs.length ≤ 1000) : Tks V A Q := by
  refine ⟨fun i x hx => tk_at h.row hx, fun x hx => (h.cs x hx).ints, fun x hx => ?_⟩
  obtain ⟨i, hi, e⟩ := List.getElem_of_mem hx
  have hi2 : i < T.length := by rw [← h.len]; exact hi
  have hs := h.same i x T[i] (by rw [List.getElem?_eq_getElem hi, e]) (List.getElem?_eq_getElem hi2)
  rw [hs.2.2.2.2.2.2.2]
  exact hT _ (List.getElem_mem _)
set_option maxRecDepth 100000 in
set_option maxHeartbeats 4000000 in
theorem same_tasks (A A' : Option Addr) (n cap cap' : Nat) (Q Q' : List Pr) (w : World) (h : Tks w A Q) (h' : Tks w A' Q') (hn : Q.length = n) (hn' : Q'.length = n) (hl : n ≤ 1000) (hs : ∀ (i : Nat) (x y : Pr), Q[i]? = some x → Q'[i]? = some y → sameT x y) :
    Calls Try.prog 45 #[.slice A n cap, .slice A' n cap'] w fun e w' => e = .returned (.bool true) ∧ Below w.heap.size w w' := by
  have H := Lib.hid h
  have H' := Lib.hid h'
  have HN := Lib.hid hn
  have HN' := Lib.hid hn'
  have HS := Lib.hid hs
  clear h h' hn hn' hs
  go_enter Try.func45, Try.ntmps45
  go_wp2_with fail
  go_loopg [5] n (fun g s5 wr => ∃ i : Nat, i + g = n ∧ s5 = .int .i64 i ∧ Below w.heap.size w wr)
  case atStart => exact ⟨0, by omega, rfl, Below.refl _ _⟩
  case round =>
    obtain ⟨i, hig, rfl, hb⟩ := hrel
    cases gk with
    | zero =>
      obtain rfl : i = n := by omega
      have hlt : ¬ ((i : Int) < (i : Int)) := by omega
      go_wp2_with fail
      go_ret
      exact ⟨rfl, hb⟩
    | succ g =>
      have i0 : (0 : Int) ≤ (i : Int) := by omega
      have i1 : (i : Int) < (n : Int) := by omega
      have hi : i < Q.length := by rw [HN.out]; omega
      have hi' : i < Q'.length := by rw [HN'.out]; omega
      have ex := List.getElem?_eq_getElem hi
      have ey := List.getElem?_eq_getElem hi'
      have hmx : Q[i] ∈ Q := List.getElem_mem _
      have hmy : Q'[i] ∈ Q' := List.getElem_mem _
      have hxy := HS.out i _ _ ex ey
      have k1 := H.out.next hb
      have k2 := H'.out.next hb
      obtain ⟨ad, rfl, h1, t1⟩ := k1.at_ i _ ex
      obtain ⟨ad', rfl, h2, t2⟩ := k2.at_ i _ ey
      have SM := Lib.hid (fun j : Mo.In wr.heap.size wr => one_same hxy j.val ((k1.cs _ hmx).next j.ok) ((k2.cs _ hmy).next j.ok) (k1.few _ hmx))
      obtain ⟨a0, a1, a2, a3, a4, a5, a6, a7⟩ := t1.in_ (by rw [block_add]; exact h1)
      obtain ⟨b0, b1, b2, b3, b4, b5, b6, b7⟩ := t2.in_ (by rw [block_add]; exact h2)
      have hIn := Mo.inNonempty wr.heap.size wr
      clear k1 k2 t1 t2 ex ey hmx hmy hxy
      generalize Q[i] = x at *
      generalize Q'[i] = y at *
      go_wp2_with fail
      refine Mo.region_in wr.heap.size (by kernel_rfl) (by kernel_rfl) ?_
      repeat (go_big_quiet_step (first | (go_at_call 38; with_reducible exact Mo.Calls.in_of (Nat.le_refl _) (SM.out _))))
      refine wpQuiet_nil ?_
      intro w6 hb6
      clear a0 a1 a2 a3 a4 a5 a6 a7 b0 b1 b2 b3 b4 b5 b6 b7
      go_wp2_with fail
      go_roundg g
      case measure => omega
      case rel => exact ⟨i + 1, by omega, by go_num, bmore hb hb6⟩
end Go.Proofs.Ytjolkcomlindhaa
