/- What PoolOwners knows on its way; what its calls tell. -/
import Derived.Test.YthmlibapjhmdbaaQ21
namespace Go.Proofs.Ythmlibapjhmdbaa
open Go.RowKit Go.Shelf Go.Maps Go.Sort

theorem zs_at {w : World} {base : Nat} {A : Option Addr} {n cap : Nat} {L : List Int} (h : w.ownsRow base 3 1 (.slice A n cap) n (L.map encZ)) : n = 0 ∨ ∃ g', A = some ⟨g', 0, none⟩ ∧ g' < w.heap.size ∧ ∀ j z, j < n → L[j]? = some z → w.cell? ⟨g', j, none⟩ = some (.int .i64 z) := by
  rcases h.2 with ⟨h0, h1⟩ | ⟨g', cap', cur, h1, h2, h3, h4, h5, h6, h7⟩
  · exact .inl h1
  · cases h1
    refine .inr ⟨_, rfl, (Array.getElem?_eq_some_iff.1 h3).1, fun j z hn hj => ?_⟩
    rw [cell_of_row w g' j cur 3 (0, 0) h3]
    have e1 : cur[j]? = (L.map encZ)[j]? := by
      rw [← h7, List.getElem?_take, if_pos (by omega)]; simp
    rw [e1]
    simp [hj]
/-- What the law knows on its way. -/
structure St (w V : World) (p b k s q : Nat) (g : Int → Option Sh) (L : List Int) : Prop where
  pool : PoolAt V p b k s q g
  low : Below w.heap.size w V
  nb : w.heap.size ≤ b
  own : Own g L k
section
variable {w V V' : World} {p b k s q : Nat} {g : Int → Option Sh} {L : List Int}
theorem St.next (h : St w V p b k s q g L) (hb : Below V.heap.size V V') : St w V' p b k s q g L := ⟨h.pool.next hb, h.low.trans (hb.mono h.low.size), h.nb, h.own⟩
theorem St.put (h : St w V p b k s q g L) {n : Int} {c : Sh} (hc : c.m ≠ Mk.zero) (ht : Turned V V' p b (k + 1) s q (fun m => if m = n then some c else g m)) : ∃ L', St w V' p b (k + 1) s q (fun m => if m = n then some c else g m) L' := by
  obtain ⟨L', h2⟩ := h.own.put n hc
  exact ⟨L', ht.pool, h.low.grown ht.grown h.low.size (fun j ej => by cases ej; exact h.nb), h.nb, h2⟩
theorem St.del (h : St w V p b k s q g L) {n : Int} (ht : Turned V V' p b k s q (fun m => if m = n then Option.none else g m)) : ∃ L', St w V' p b k s q (fun m => if m = n then Option.none else g m) L' := by
  obtain ⟨L', h2⟩ := h.own.del n
  exact ⟨L', ht.pool, h.low.grown ht.grown h.low.size (fun j ej => by cases ej; exact h.nb), h.nb, h2⟩
end
/-- Masks that were told. -/
structure Ms (V : World) (A : Option Addr) (R : Nat) (ms : List (List Nat)) : Prop where
  len : ms.length = R
  most : R ≤ 32
  w4 : ∀ m ∈ ms, Mk.W4 m
  at_ : R = 0 ∨ ∃ gm, A = some ⟨gm, 0, none⟩ ∧ MasksAt V V.heap.size gm ms
theorem Ms.next {V V' : World} {A : Option Addr} {R : Nat} {ms : List (List Nat)} (h : Ms V A R ms) (hb : Below V.heap.size V V') : Ms V' A R ms := by
  refine ⟨h.len, h.most, h.w4, ?_⟩
  rcases h.at_ with e | ⟨gm, e, h1⟩
  · exact .inl e
  · exact .inr ⟨gm, e, h1.next hb⟩
/-- The mask at a place. -/
theorem Ms.still {V : World} {A : Option Addr} {R : Nat} {ms : List (List Nat)} (h : Ms V A R ms) {j : Nat} (hj : j < R) : ∃ gm m, A = some ⟨gm, 0, none⟩ ∧ ms[j]? = some m ∧ Mk.W4 m ∧ ∀ V', Below V.heap.size V V' → MasksAt V' V'.heap.size gm ms := by
  have hl := h.len
  have e := List.getElem?_eq_getElem (l := ms) (i := j) (by omega)
  rcases h.at_ with q | ⟨gm, q, h1⟩
  · omega
  · exact ⟨gm, ms[j], q, e, h.w4 _ (List.getElem_mem _), fun V' hb => h1.next hb⟩
/-- What Reserve does to the law's pool. -/
def Res (w : World) (p b k s q : Nat) (n : Int) (B : Nat) (cs : Array Value) (e : Ending) (w' : World) : Prop :=
  ∃ (A : Option Addr) (R : Nat) (ms : List (List Nat)) (er : Int) (k' : Nat) (g' : Int → Option Sh) (L' : List Int),
    e = .returned (.tuple #[.slice A R R, .int .i64 er]) ∧ Ms w' A R ms ∧ k' ≤ k + 1 ∧ St w w' p b k' s q g' L' ∧ Bk w' B 39 cs ∧ (er = 0 → ((g' n).getD Sh.none).m = orAll ms ∧ ((g' n).getD Sh.none).t = false)
theorem res_any {w V : World} {p b k s q : Nat} {g : Int → Option Sh} {L : List Int} (h : St w V p b k s q g L) (hL : LOk s q) {n : Int} (hn : (Lit.int .i64 n).wf = true) (r pe d : Int) (hk : k < 1000000) (B : Nat) (cs : Array Value) (hB : Bk V B 39 cs) (hne : B ≠ b) :
    Calls Try.prog 26 #[.pointer (some ⟨p, 0, none⟩), .int .i64 n, .agg #[.int .u64 0, .int .u64 0, .int .u64 0, .int .u64 0, .int .i64 r, .int .i64 pe, .int .i64 d]] V (Res w p b k s q n B cs) := by
  refine (reserve_any h.pool hL hn 0 0 0 0 r pe d hk).mono ?_
  rintro e w' (⟨er, rfl, her, hb⟩ | ⟨gm, R, ms, c, rfl, h1, h2, h3, h4, h5, h6, h7, h8, h9⟩)
  · exact ⟨none, 0, [], er, k, g, L, rfl, ⟨rfl, by omega, (fun m hm => by cases hm), .inl rfl⟩, by omega, h.next hb, hB.next hb, fun e => absurd e her⟩
  · obtain ⟨L', hS⟩ := h.put h8 h9
    refine ⟨_, R, ms, 0, k + 1, _, L', rfl, ⟨h4, h5, h3, .inr ⟨gm, rfl, masks_row h2 (fun m hm => (h3 m hm).1)⟩⟩, Nat.le_refl _, hS, hB.grown h9.grown hne, fun _ => ?_⟩
    simp only [if_true, Option.getD_some]
    exact ⟨h6, h7⟩
/-- What Release does to it. -/
def Rel (w : World) (p b k s q : Nat) (B : Nat) (cs : Array Value) (e : Ending) (w' : World) : Prop :=
  ∃ (er : Int) (g' : Int → Option Sh) (L' : List Int), e = .returned (.int .i64 er) ∧ St w w' p b k s q g' L' ∧ Bk w' B 39 cs
theorem rel_any {w V : World} {p b k s q : Nat} {g : Int → Option Sh} {L : List Int} (h : St w V p b k s q g L) {n : Int} (hn : (Lit.int .i64 n).wf = true) (B : Nat) (cs : Array Value) (hB : Bk V B 39 cs) (hne : B ≠ b) :
    Calls Try.prog 25 #[.pointer (some ⟨p, 0, none⟩), .int .i64 n] V (Rel w p b k s q B cs) := by
  cases hg : (g n).isSome with
  | false =>
    refine (release_no h.pool hn hg).mono ?_
    rintro e w' ⟨rfl, hb⟩
    exact ⟨14, g, L, rfl, h.next hb, hB.next hb⟩
  | true =>
    refine (release_ok h.pool hn hg).mono ?_
    rintro e w' ⟨rfl, ht⟩
    obtain ⟨L', hS⟩ := h.del ht
    exact ⟨0, _, L', rfl, hS, hB.grown ht.grown hne⟩
/-- Bk, its first four cells set. -/
theorem Bk.set4 {w : World} {gg : Nat} {t : TypeId} {x0 x1 x2 x3 : Value} (h : Bk w gg t #[x0, x1, x2, x3]) (a b c d : Value) : Bk ((((w.setCell ⟨gg, 0, none⟩ a).setCell ⟨gg, 1, none⟩ b).setCell ⟨gg, 2, none⟩ c).setCell ⟨gg, 3, none⟩ d) gg t #[a, b, c, d] := by
  have e1 := heap_setCell_same w gg 0 _ t a h
  have e2 := heap_setCell_same _ gg 1 _ t b e1
  have e3 := heap_setCell_same _ gg 2 _ t c e2
  have e4 := heap_setCell_same _ gg 3 _ t d e3
  simpa [Bk] using e4
theorem below_set4 {B gg : Nat} {w V : World} (h : Below B w V) (hg : B ≤ gg) (a b c d : Value) : Below B w ((((V.setCell ⟨gg, 0, none⟩ a).setCell ⟨gg, 1, none⟩ b).setCell ⟨gg, 2, none⟩ c).setCell ⟨gg, 3, none⟩ d) :=
  (((h.setCell (p := ⟨gg, 0, none⟩) hg a).setCell (p := ⟨gg, 1, none⟩) hg b).setCell (p := ⟨gg, 2, none⟩) hg c).setCell (p := ⟨gg, 3, none⟩) hg d
end Go.Proofs.Ythmlibapjhmdbaa
