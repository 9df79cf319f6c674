/- Tasks told: one by one; whether two are the same. -/
import Derived.Test.YtjolkcomlindhaaGG14xG15
import Derived.Test.YtjolkcomlindhaaP3
import Derived.Deep.LoopGhost
namespace Go.Proofs.Ytjolkcomlindhaa
open Go.RowKit Go.Shelf Go.Maps Go.Sort

/-- A task at a place. -/
structure TkAt (w : World) (e : Addr) (x : Pr) : Prop where
  c0 : w.cell? e = some (.int .i64 x.pid)
  c1 : w.cell? ⟨e.block, e.off + 1, none⟩ = some (.int .i64 x.j)
  c2 : w.cell? ⟨e.block, e.off + 2, none⟩ = some (.int .i64 x.e)
  c3 : w.cell? ⟨e.block, e.off + 3, none⟩ = some (.int .i64 x.s)
  c4 : w.cell? ⟨e.block, e.off + 4, none⟩ = some (.int .i64 x.r)
  c5 : w.cell? ⟨e.block, e.off + 5, none⟩ = some (.slice x.A x.cs.length x.cap)
  c6 : w.cell? ⟨e.block, e.off + 6, none⟩ = some (.int .i64 x.st)
  c7 : w.cell? ⟨e.block, e.off + 7, none⟩ = some (.int .i64 x.code)
theorem kRow_len : ∀ Q : List Pr, (kRow Q).length = Q.length * 8
  | [] => rfl
  | x :: r => by
    show (x.c8 ++ kRow r).length = _
    rw [List.length_append, kRow_len r]
    simp
    omega
theorem kRow_get : ∀ (Q : List Pr) (i j : Nat) (x : Pr), Q[i]? = some x → j < 8 → (kRow Q)[i * 8 + j]? = x.c8[j]?
  | [], i, j, x, h, _ => by simp at h
  | y :: r, 0, j, x, h, hj => by
    simp at h
    subst h
    show (y.c8 ++ kRow r)[0 * 8 + j]? = _
    rw [Nat.zero_mul, Nat.zero_add, List.getElem?_append_left (by simpa using hj)]
  | y :: r, i + 1, j, x, h, hj => by
    show (y.c8 ++ kRow r)[(i + 1) * 8 + j]? = _
    rw [List.getElem?_append_right (by simp; omega)]
    have e : (i + 1) * 8 + j - y.c8.length = i * 8 + j := by simp; omega
    rw [e]
    exact kRow_get r i j x (by simpa using h) hj
theorem tk_at {V : World} {B n : Nat} {A : Option Addr} {cap : Nat} {Q : List Pr} (h : V.ownsRow B 61 8 (.slice A n cap) Q.length (kRow Q)) {i : Nat} {x : Pr} (hx : Q[i]? = some x) : ∃ ad, A = some ad ∧ ad.block < V.heap.size ∧ TkAt V (ad.add (i * 8)) x := by
  have hi := (List.getElem?_eq_some_iff.1 hx).1
  rcases h.2 with ⟨e, h0⟩ | ⟨g, cap', cur, e, hb, hg, _⟩
  · omega
  · cases e
    have hc := h.cells (g := g) rfl
    have q := fun j (hj : j < 8) u (hu : x.c8[j]? = some u) => hc (i * 8 + j) u ((kRow_get Q i j x hx hj).trans hu)
    have ha : ∀ j, (⟨g, 0, none⟩ : Addr).add (i * 8 + j) = ⟨g, i * 8 + j, none⟩ := fun j => by unfold Addr.add; split <;> simp_all
    have hb : (⟨g, 0, none⟩ : Addr).add (i * 8) = ⟨g, i * 8, none⟩ := ha 0
    refine ⟨⟨g, 0, none⟩, rfl, (Array.getElem?_eq_some_iff.1 hg).1, ?_⟩
    rw [hb]
    have r := fun j (hj : j < 8) u (hu : x.c8[j]? = some u) => (by have := q j hj u hu; rw [ha j] at this; exact this : V.cell? ⟨g, i * 8 + j, none⟩ = some u)
    exact ⟨r 0 (by omega) _ rfl, r 1 (by omega) _ rfl, r 2 (by omega) _ rfl, r 3 (by omega) _ rfl, r 4 (by omega) _ rfl, r 5 (by omega) _ rfl, r 6 (by omega) _ rfl, r 7 (by omega) _ rfl⟩
theorem TkAt.next {w w' : World} {e : Addr} {x : Pr} (h : TkAt w e x) (he : e.block < w.heap.size) (hb : Below w.heap.size w w') : TkAt w' e x :=
  ⟨(hb.cell he).trans h.c0, (hb.cell (p := ⟨e.block, e.off + 1, none⟩) he).trans h.c1, (hb.cell (p := ⟨e.block, e.off + 2, none⟩) he).trans h.c2, (hb.cell (p := ⟨e.block, e.off + 3, none⟩) he).trans h.c3, (hb.cell (p := ⟨e.block, e.off + 4, none⟩) he).trans h.c4, (hb.cell (p := ⟨e.block, e.off + 5, none⟩) he).trans h.c5, (hb.cell (p := ⟨e.block, e.off + 6, none⟩) he).trans h.c6, (hb.cell (p := ⟨e.block, e.off + 7, none⟩) he).trans h.c7⟩
set_option maxRecDepth 100000 in
set_option maxHeartbeats 1000000 in
theorem one_true (p j e s r st c : Int) (A A' : Option Addr) (n cap cap' : Nat) (zs : List Int) (w : World) (h : IntsAt w A zs) (h' : IntsAt w A' zs) (hn : zs.length = n) (hl : n ≤ 1000) :
    Calls Try.prog 38 #[tkV p j e s r (.slice A n cap) st c, tkV p j e s r (.slice A' n cap') st c] w fun x w' => x = .returned (.bool true) ∧ Below w.heap.size w w' := by
  have low := (below_alloc w (.cells (tkC p j e s r (.slice A n cap) st c) 61)).alloc (by simp) (.cells (tkC p j e s r (.slice A' n cap') st c) 61)
  have k0 := (Bk.new w 61 (tkC p j e s r (.slice A n cap) st c)).alloc (.cells (tkC p j e s r (.slice A' n cap') st c) 61)
  have k1 := Bk.new (w.alloc (.cells (tkC p j e s r (.slice A n cap) st c) 61)) 61 (tkC p j e s r (.slice A' n cap') st c)
  rw [size_alloc] at k1
  have KS := Lib.hid (same_eq A A' cap cap' n zs _ (h.next low) (h'.next low) hn (by unfold maxLen; omega))
  obtain ⟨⟨d0, d1, d2, d3, d4, d5, d6, d7⟩, _⟩ := k0.z8
  obtain ⟨⟨e0, e1, e2, e3, e4, e5, e6, e7⟩, _⟩ := k1.z8
  clear h h' hn k0 k1
  go_enter Try.func38, Try.ntmps38
  go_wp2_with fail
  refine KS.out.mono ?_
  rintro x w1 ⟨rfl, hb⟩
  go_wp2_with fail
  go_ret
  exact ⟨rfl, bmore low hb⟩
/-- Two told tasks that are the same. -/
theorem one_same {x y : Pr} (hs : sameT x y) (w : World) (h : IntsAt w x.A x.cs) (h' : IntsAt w y.A y.cs) (hl : x.cs.length ≤ 1000) :
    Calls Try.prog 38 #[x.v, y.v] w fun r w' => r = .returned (.bool true) ∧ Below w.heap.size w w' := by
  obtain ⟨a1, a2, a3, a4, a5, a6, a7, a8⟩ := hs
  have k := one_true y.pid y.j y.e y.s y.r y.st y.code x.A y.A y.cs.length x.cap y.cap y.cs w (by rw [← a8]; exact h) h' rfl (by rw [← a8]; exact hl)
  unfold Pr.v
  rw [a1, a2, a3, a4, a5, a6, a7, a8]
  exact k
end Go.Proofs.Ytjolkcomlindhaa
