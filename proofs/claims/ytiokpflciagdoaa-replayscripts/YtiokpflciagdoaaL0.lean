/- live. -/
import Derived.Test.YtiokpflciagdoaaA9
namespace Go.Proofs.Ytiokpflciagdoaa
open Go.RowKit Go.Maps

/-- What live knows on its way. -/
structure Lv (w V : World) (p bk bt gx gy gs : Nat) (cx cy : Array Value) (L : List (Pl × Int)) (T : List (Jb × Int)) : Prop where
  cache : CacheAt V p bk bt 1 L T
  bx : Bk V gx 31 cx
  by_ : Bk V gy 31 cy
  sl : Bk V gs 3 #[.int .i64 0]
  low : Below w.heap.size w V
  nk : gx ≠ bk ∧ gy ≠ bk ∧ gs ≠ bk ∧ w.heap.size ≤ bk
  nt : gx ≠ bt ∧ gy ≠ bt ∧ gs ≠ bt ∧ w.heap.size ≤ bt
section
variable {w V V' : World} {p bk bt gx gy gs : Nat} {cx cy : Array Value} {L L' : List (Pl × Int)} {T T' : List (Jb × Int)}
theorem Lv.ints (h : Lv w V p bk bt gx gy gs cx cy L T) : IntsAt V (some ⟨gs, 0, none⟩) [0] :=
  .inr ⟨_, rfl, h.sl.lt, fun j hj => by
    obtain rfl : j = 0 := by simp at hj; omega
    exact h.sl.cell 0 _ rfl⟩
theorem Lv.next (h : Lv w V p bk bt gx gy gs cx cy L T) (hb : Below V.heap.size V V') : Lv w V' p bk bt gx gy gs cx cy L T :=
  ⟨h.cache.next hb, h.bx.next hb, h.by_.next hb, h.sl.next hb, h.low.trans (hb.mono h.low.size), h.nk, h.nt⟩
theorem Lv.turnK (h : Lv w V p bk bt gx gy gs cx cy L T) (hc : CacheAt V' p bk bt 1 L' T) (hg : V.grownBy V' (some bk)) : Lv w V' p bk bt gx gy gs cx cy L' T :=
  ⟨hc, h.bx.grown hg h.nk.1, h.by_.grown hg h.nk.2.1, h.sl.grown hg h.nk.2.2.1, h.low.grown hg h.low.size (fun j ej => by cases ej; exact h.nk.2.2.2), h.nk, h.nt⟩
theorem Lv.turnT (h : Lv w V p bk bt gx gy gs cx cy L T) (hc : CacheAt V' p bk bt 1 L T') (hg : V.grownBy V' (some bt)) : Lv w V' p bk bt gx gy gs cx cy L T' :=
  ⟨hc, h.bx.grown hg h.nt.1, h.by_.grown hg h.nt.2.1, h.sl.grown hg h.nt.2.2.1, h.low.grown hg h.low.size (fun j ej => by cases ej; exact h.nt.2.2.2), h.nk, h.nt⟩
theorem Lv.use (st : Lv w V p bk bt gx gy gs cx cy L T) (x : Pl) (u now r : Int) (h : useOf (chk x.j x.e x.s 0 u 1 1 [0]) 1 L T x u now = (r, L')) (hL : L.length ≤ 1000) (hu : wf u) :
    Calls Try.prog 18 #[.pointer (some ⟨p, 0, none⟩), .agg #[.int .i64 x.j, .int .i64 x.e, .int .i64 x.s, .int .i64 0, .int .i64 u, .slice (some ⟨gs, 0, none⟩) 1 1, .int .i64 1], .int .i64 now] V fun e w' => e = .returned (.int .i64 r) ∧ Lv w w' p bk bt gx gy gs cx cy L' T := by
  have := use_any st.cache x 0 u (some ⟨gs, 0, none⟩) 1 1 1 now [0] st.ints rfl (by unfold maxLen; omega) hu hL
  rw [h] at this
  exact this.mono fun e w' ⟨he, hc, hg⟩ => ⟨he, st.turnK hc hg⟩
theorem Lv.rev (st : Lv w V p bk bt gx gy gs cx cy L T) (j : Jb) (e r : Int) (h : revOf T j e = (r, T')) (hT : T.length ≤ 64) (hu : wf e) :
    Calls Try.prog 19 #[.pointer (some ⟨p, 0, none⟩), .int .i64 j.n, .int .i64 e] V fun e w' => e = .returned (.int .i64 r) ∧ Lv w w' p bk bt gx gy gs cx cy L T' := by
  have := rev_any st.cache j e hu hT
  rw [h] at this
  exact this.mono fun e w' ⟨he, hc, hg⟩ => ⟨he, st.turnT hc hg⟩
theorem Lv.cells {a0 a1 a2 a3 a4 a5 a6 b0 b1 b2 b3 b4 b5 b6 : Value} (h : Lv w V p bk bt gx gy gs #[a0, a1, a2, a3, a4, a5, a6] #[b0, b1, b2, b3, b4, b5, b6] L T) :
    (V.cell? ⟨gx, 0, none⟩ = some a0 ∧ V.cell? ⟨gx, 1, none⟩ = some a1 ∧ V.cell? ⟨gx, 2, none⟩ = some a2 ∧ V.cell? ⟨gx, 3, none⟩ = some a3 ∧ V.cell? ⟨gx, 4, none⟩ = some a4 ∧ V.cell? ⟨gx, 5, none⟩ = some a5 ∧ V.cell? ⟨gx, 6, none⟩ = some a6) ∧
    V.cell? ⟨gy, 0, none⟩ = some b0 ∧ V.cell? ⟨gy, 1, none⟩ = some b1 ∧ V.cell? ⟨gy, 2, none⟩ = some b2 ∧ V.cell? ⟨gy, 3, none⟩ = some b3 ∧ V.cell? ⟨gy, 4, none⟩ = some b4 ∧ V.cell? ⟨gy, 5, none⟩ = some b5 ∧ V.cell? ⟨gy, 6, none⟩ = some b6 :=
  ⟨⟨h.bx.cell 0 _ rfl, h.bx.cell 1 _ rfl, h.bx.cell 2 _ rfl, h.bx.cell 3 _ rfl, h.bx.cell 4 _ rfl, h.bx.cell 5 _ rfl, h.bx.cell 6 _ rfl⟩, h.by_.cell 0 _ rfl, h.by_.cell 1 _ rfl, h.by_.cell 2 _ rfl, h.by_.cell 3 _ rfl, h.by_.cell 4 _ rfl, h.by_.cell 5 _ rfl, h.by_.cell 6 _ rfl⟩
end
abbrev px : Pl := ⟨1, 0, 0, by decide⟩
abbrev py : Pl := ⟨1, 0, 1, by decide⟩
abbrev j1 : Jb := ⟨1, by decide⟩
theorem u1 : useOf (chk px.j px.e px.s 0 10 1 1 [0]) 1 [] [] px 10 3 = (0, [(px, 10)]) := by decide
theorem u2 : useOf (chk px.j px.e px.s 0 10 1 1 [0]) 1 [(px, 10)] [] px 10 3 = (10, [(px, 10)]) := by decide
theorem u3 : useOf (chk py.j py.e py.s 0 10 1 1 [0]) 1 [(px, 10)] [] py 10 3 = (6, [(px, 10)]) := by decide
theorem u4 : useOf (chk py.j py.e py.s 0 20 1 1 [0]) 1 [(px, 10)] [] py 20 10 = (0, [(py, 20)]) := by decide
theorem u5 : revOf [] j1 0 = (0, [(j1, 0)]) := by decide
theorem u6 : useOf (chk py.j py.e py.s 0 20 1 1 [0]) 1 [(py, 20)] [(j1, 0)] py 20 10 = (11, [(py, 20)]) := by decide
theorem u7 : useOf (chk px.j px.e px.s 0 10 1 1 [0]) 1 [(py, 20)] [(j1, 0)] px 10 10 = (8, [(py, 20)]) := by decide
end Go.Proofs.Ytiokpflciagdoaa
