/- Both pools in memory; what a call on one does to both. -/
import Derived.Test.YthmlibapjhmdbaaQ37
import Derived.Test.YthmlibapjhmdbaaQ38
import Derived.Test.YthmlibapjhmdbaaQ22
namespace Go.Proofs.Ythmlibapjhmdbaa
open Go.RowKit Go.Shelf Go.Maps

theorem own_map_at {w w' : World} {b k : Nat} {D : DataW Unit} (h : w.ownsMap Try.prog 3 shE b k D) (hb : w'.heap[b]? = w.heap[b]?) : w'.ownsMap Try.prog 3 shE b k D := by
  obtain ⟨es, clock, h1, Ft, hs, hD⟩ := h
  exact ⟨es, clock, hb.trans h1, Ft, hs, hD⟩
theorem PoolAt.under {w w' : World} {p b k s q r : Nat} {g : Int → Option Sh} (h : PoolAt w p b k s q g) (hp : p < r) (hb : b < r) (hw : Below r w w') : PoolAt w' p b k s q g := by
  obtain ⟨D, h1, h2⟩ := h.own
  exact ⟨h.blk.below hw hp, D, own_map_at h1 (hw.block b hb), h2⟩
theorem RPool.turned {w w' : World} {r s q na nb b : Nat} {va vb : Value} {Ow Dn : List Int} (h : RPool w r s q va vb na nb Ow Dn) (hg : w.grownBy w' (some b)) (hb : b < r) : RPool w' r s q va vb na nb Ow Dn :=
  ⟨h.blk.grown hg (by omega), own_kept h.ra hg (fun g e e2 => by have := (own_blk h.ra e).1; have e3 : b = g := Option.some.inj e2; omega), own_kept h.rb hg (fun g e e2 => by have := (own_blk h.rb e).1; have e3 : b = g := Option.some.inj e2; omega), h.ab, h.la, h.lb⟩
/-- The blocks of both. -/
def PX (b r : Nat) (va vb : Value) (i : Nat) : Prop := i = b ∨ RX r va vb i
/-- Both pools, apart. -/
structure Two (w V : World) (p b k s q : Nat) (g : Int → Option Sh) (L : List Int) (r nb : Nat) (va vb : Value) (Ow Dn : List Int) : Prop where
  st : St w V p b k s q g L
  hp : p < r
  hb : b < r
  hr : w.heap.size ≤ r
  rp : RPool V r s q va vb (s * q) nb Ow Dn
section
variable {w V V' : World} {p b k k' s q r nb nb' : Nat} {g g' : Int → Option Sh} {L : List Int} {va vb va' vb' : Value} {Ow Dn Ow' Dn' : List Int}
theorem Two.next (h : Two w V p b k s q g L r nb va vb Ow Dn) (hb : Below V.heap.size V V') : Two w V' p b k s q g L r nb va vb Ow Dn := ⟨h.st.next hb, h.hp, h.hb, h.hr, h.rp.next hb⟩
theorem Two.lt (h : Two w V p b k s q g L r nb va vb Ow Dn) : ∀ i, PX b r va vb i → i < V.heap.size := by
  rintro i (rfl | rfl | e | e)
  · exact h.st.pool.ltb
  · exact h.rp.blk.lt
  · exact (own_blk h.rp.ra e).2
  · exact (own_blk h.rp.rb e).2
theorem Two.ge (h : Two w V p b k s q g L r nb va vb Ow Dn) : ∀ i, RX r va vb i → r ≤ i := by
  rintro i (rfl | e | e)
  · exact Nat.le_refl _
  · have := (own_blk h.rp.ra e).1; omega
  · have := (own_blk h.rp.rb e).1; omega
theorem Two.prog (h : Two w V p b k s q g L r nb va vb Ow Dn) (ht : Turned V V' p b k' s q g') (hO : ∃ L', Own g' L' k') : ∃ L', Two w V' p b k' s q g' L' r nb va vb Ow Dn := by
  obtain ⟨L', h2⟩ := hO
  exact ⟨L', ⟨ht.pool, h.st.low.grown ht.grown h.st.low.size (fun j ej => by cases ej; exact h.st.nb), h.st.nb, h2⟩, h.hp, h.hb, h.hr, h.rp.turned ht.grown h.hb⟩
theorem Two.ref (h : Two w V p b k s q g L r nb va vb Ow Dn) (ht : Td (RX r va vb) V V') (hR : RPool V' r s q va' vb' (s * q) nb' Ow' Dn') : Two w V' p b k s q g L r nb' va' vb' Ow' Dn' := by
  have hB := ht.below h.ge (Nat.le_of_lt h.rp.blk.lt)
  exact ⟨⟨h.st.pool.under h.hp h.hb hB, h.st.low.trans (hB.mono h.hr), h.st.nb, h.st.own⟩, h.hp, h.hb, h.hr, hR⟩
/-- Somewhere on the way: the program's pool has turned. -/
structure Md (w V W : World) (p b k s q : Nat) (g : Int → Option Sh) (L : List Int) (r nb : Nat) (va vb : Value) (Ow Dn : List Int) (B : Nat) (cs : Array Value) : Prop where
  two : Two w W p b k s q g L r nb va vb Ow Dn
  td : Td (PX b r va vb) V W
  bk : Bk W B 39 cs
theorem Md.start (h : Two w V p b k s q g L r nb va vb Ow Dn) {B : Nat} {cs : Array Value} (kb : Bk V B 39 cs) {W : World} (hW : Below V.heap.size V W) : Md w V W p b k s q g L r nb va vb Ow Dn B cs := ⟨h.next hW, Td.of_below hW, kb.next hW⟩
variable {W W' : World} {B : Nat} {cs : Array Value}
theorem Md.next (h : Md w V W p b k s q g L r nb va vb Ow Dn B cs) (hW : Below W.heap.size W W') : Md w V W' p b k s q g L r nb va vb Ow Dn B cs := ⟨h.two.next hW, h.td.trans (Td.of_below hW), h.bk.next hW⟩
theorem Md.prog (h : Md w V W p b k s q g L r nb va vb Ow Dn B cs) (hx : ¬ PX b r va vb B) (ht : Turned W W' p b k' s q g') (hO : ∃ L', Own g' L' k') : ∃ L', Md w V W' p b k' s q g' L' r nb va vb Ow Dn B cs := by
  obtain ⟨L', h2⟩ := h.two.prog ht hO
  exact ⟨L', h2, h.td.trans (Td.grown ht.grown (fun i e => by cases e; exact .inl rfl)), h.bk.grown ht.grown (fun e => hx (.inl e))⟩
/-- At the end: both have turned. -/
structure En (w V W : World) (p b k s q : Nat) (g : Int → Option Sh) (L : List Int) (r nb : Nat) (va vb va' vb' : Value) (Ow Dn : List Int) (B : Nat) (cs : Array Value) : Prop where
  two : Two w W p b k s q g L r nb va' vb' Ow Dn
  td : Td (PX b r va vb) V W
  bk : Bk W B 39 cs
theorem Md.ref (h : Md w V W p b k s q g L r nb va vb Ow Dn B cs) (hx : ¬ PX b r va vb B) (ht : Td (RX r va vb) W W') (hR : RPool W' r s q va' vb' (s * q) nb' Ow' Dn') : En w V W' p b k s q g L r nb' va vb va' vb' Ow' Dn' B cs :=
  ⟨h.two.ref ht hR, h.td.trans (ht.mono fun _ e => .inr e), ht.bk h.bk (fun e => hx (.inr e))⟩
theorem Md.same (h : Md w V W p b k s q g L r nb va vb Ow Dn B cs) (hW : Below W.heap.size W W') : En w V W' p b k s q g L r nb va vb va vb Ow Dn B cs := ⟨h.two.next hW, h.td.trans (Td.of_below hW), h.bk.next hW⟩
theorem En.next (h : En w V W p b k s q g L r nb va vb va' vb' Ow Dn B cs) (hW : Below W.heap.size W W') : En w V W' p b k s q g L r nb va vb va' vb' Ow Dn B cs := ⟨h.two.next hW, h.td.trans (Td.of_below hW), h.bk.next hW⟩
/-- Somebody is given cores that were free. -/
def Gvn (N : Nat) (g g' : Int → Option Sh) (n : Int) (c : Sh) : Prop :=
  isOwn n = true ∧ (g n).isSome = false ∧ c.m ≠ Mk.zero ∧ (∀ x, x < 256 → Mk.hasB c.m x = true → Mk.hasB (freeM (Mk.ofL (List.range N)) g) x = true) ∧ g' = fun m => if m = n then some c else g m
/-- Take. -/
def PTk (w V W' : World) (p b k s q : Nat) (g : Int → Option Sh) (r nb : Nat) (va vb : Value) (Ow Dn : List Int) (B : Nat) (cs : Array Value) (n : Int) (m : List Nat) : Prop :=
  ∃ k' g' L', k' ≤ k + 1 ∧ Md w V W' p b k' s q g' L' r nb va vb Ow Dn B cs ∧ ((tkE s q g n m ≠ 0 ∧ g' = g) ∨ (tkE s q g n m = 0 ∧ ∃ c : Sh, c.m = m ∧ c.t = true ∧ Gvn (s * q) g g' n c))
theorem Md.take (h : Md w V W p b k s q g L r nb va vb Ow Dn B cs) (hx : ¬ PX b r va vb B) (hL : LOk s q) (hk : k ≤ 900) {n : Int} (hn : (Lit.int .i64 n).wf = true) (a0 a1 a2 a3 : Nat) (ha : Mk.W4 [a0, a1, a2, a3]) :
    Calls Try.prog 27 #[.pointer (some ⟨p, 0, none⟩), .int .i64 n, .agg #[.int .u64 a0, .int .u64 a1, .int .u64 a2, .int .u64 a3]] W fun e w' => e = .returned (.int .i64 (tkE s q g n [a0, a1, a2, a3])) ∧ PTk w V w' p b k s q g r nb va vb Ow Dn B cs n [a0, a1, a2, a3] := by
  refine (take_ex h.two.st.pool hL hn a0 a1 a2 a3 ha (by omega)).mono ?_
  rintro e w' (⟨h1, rfl, hb⟩ | ⟨h1, rfl, h2, h3, h4, h5, h6⟩)
  · exact ⟨rfl, k, g, L, by omega, h.next hb, .inl ⟨h1, rfl⟩⟩
  · obtain ⟨L', hM⟩ := h.prog hx h6 (h.two.st.own.put n (c := ⟨[a0, a1, a2, a3], true, ha⟩) h4)
    exact ⟨by rw [h1], k + 1, _, L', Nat.le_refl _, hM, .inr ⟨h1, ⟨[a0, a1, a2, a3], true, ha⟩, rfl, rfl, h2, h3, h4, h5, rfl⟩⟩
/-- The document's Take. -/
def RTk (w V W' : World) (p b k s q : Nat) (g : Int → Option Sh) (L : List Int) (r nb : Nat) (va vb : Value) (Ow Dn : List Int) (B : Nat) (cs : Array Value) (n : Int) (m : List Nat) : Prop :=
  ∃ nb' va' vb' Ow' Dn', nb' ≤ nb + 1 ∧ En w V W' p b k s q g L r nb' va vb va' vb' Ow' Dn' B cs ∧ ((rtE Ow n m ≠ 0 ∧ Ow' = Ow ∧ Dn' = Dn) ∨ (rtE Ow n m = 0 ∧ Ow' = gv m n Ow (s * q) ∧ Dn' = Dn ++ [n]))
theorem LOk.pos (hL : LOk s q) : 1 ≤ s * q := Nat.mul_pos hL.1 hL.2.2.1
theorem Md.rtake (h : Md w V W p b k s q g L r nb va vb Ow Dn B cs) (hx : ¬ PX b r va vb B) (hL : LOk s q) (hd : nb ≤ 900) (n : Int) (a0 a1 a2 a3 : Nat) (ha : Mk.W4 [a0, a1, a2, a3]) :
    Calls Try.prog 34 #[.pointer (some ⟨r, 0, none⟩), .int .i64 n, .agg #[.int .u64 a0, .int .u64 a1, .int .u64 a2, .int .u64 a3]] W fun e w' => e = .returned (.int .i64 (rtE Ow n [a0, a1, a2, a3])) ∧ RTk w V w' p b k s q g L r nb va vb Ow Dn B cs n [a0, a1, a2, a3] := by
  refine (rtake_any h.two.rp hL.2.2.2.2 hL.pos (by omega) n a0 a1 a2 a3 ha).mono ?_
  rintro e w' (⟨h1, rfl, hb⟩ | ⟨h1, rfl, ⟨vb', hR⟩, ht⟩)
  · exact ⟨rfl, nb, va, vb, Ow, Dn, by omega, h.same hb, .inl ⟨h1, rfl, rfl⟩⟩
  · exact ⟨by rw [h1], nb + 1, va, vb', _, _, Nat.le_refl _, h.ref hx ht hR, .inr ⟨h1, rfl, rfl⟩⟩
/-- Commit. -/
def cmE (g : Int → Option Sh) (n : Int) : Int := if (g n).isSome = true ∧ ((g n).getD Sh.none).t = false then 0 else 14
def PCm (w V W' : World) (p b k s q : Nat) (g : Int → Option Sh) (r nb : Nat) (va vb : Value) (Ow Dn : List Int) (B : Nat) (cs : Array Value) (n : Int) : Prop :=
  ∃ k' g' L', k' ≤ k + 1 ∧ Md w V W' p b k' s q g' L' r nb va vb Ow Dn B cs ∧ ((cmE g n ≠ 0 ∧ g' = g) ∨ (cmE g n = 0 ∧ ∃ c, g n = some c ∧ c.t = false ∧ g' = fun m => if m = n then some ⟨c.m, true, c.ok⟩ else g m))
theorem Md.commit (h : Md w V W p b k s q g L r nb va vb Ow Dn B cs) (hx : ¬ PX b r va vb B) (hk : k ≤ 900) {n : Int} (hn : (Lit.int .i64 n).wf = true) :
    Calls Try.prog 28 #[.pointer (some ⟨p, 0, none⟩), .int .i64 n] W fun e w' => e = .returned (.int .i64 (cmE g n)) ∧ PCm w V w' p b k s q g r nb va vb Ow Dn B cs n := by
  refine (commit_any h.two.st.pool hn (by omega)).mono ?_
  rintro e w' (⟨rfl, h1, hb⟩ | ⟨c, h1, h2, rfl, h3⟩)
  · have hE : cmE g n = 14 := by
      unfold cmE
      rw [if_neg]
      rintro ⟨h4, h5⟩
      rw [h1 h4] at h5
      cases h5
    exact ⟨by rw [hE], k, g, L, by omega, h.next hb, .inl ⟨by rw [hE]; decide, rfl⟩⟩
  · have hE : cmE g n = 0 := by
      unfold cmE
      rw [h1, if_pos ⟨rfl, h2⟩]
    obtain ⟨L', hM⟩ := h.prog hx h3 (h.two.st.own.put n (c := ⟨c.m, true, c.ok⟩) (h.two.st.own.some_ n c h1))
    exact ⟨by rw [hE], k + 1, _, L', Nat.le_refl _, hM, .inr ⟨hE, c, h1, h2, rfl⟩⟩
/-- The document's Commit. -/
def rcE (Ow Dn : List Int) (n : Int) : Int := if rcB Ow Dn n = true then 14 else 0
def RCm (w V W' : World) (p b k s q : Nat) (g : Int → Option Sh) (L : List Int) (r nb : Nat) (va vb : Value) (Ow Dn : List Int) (B : Nat) (cs : Array Value) (n : Int) : Prop :=
  ∃ nb' va' vb' Ow' Dn', nb' ≤ nb + 1 ∧ En w V W' p b k s q g L r nb' va vb va' vb' Ow' Dn' B cs ∧ ((rcE Ow Dn n ≠ 0 ∧ Ow' = Ow ∧ Dn' = Dn) ∨ (rcE Ow Dn n = 0 ∧ Ow' = Ow ∧ Dn' = Dn ++ [n]))
theorem Md.rcommit (h : Md w V W p b k s q g L r nb va vb Ow Dn B cs) (hx : ¬ PX b r va vb B) (hL : LOk s q) (hd : nb ≤ 900) (n : Int) :
    Calls Try.prog 35 #[.pointer (some ⟨r, 0, none⟩), .int .i64 n] W fun e w' => e = .returned (.int .i64 (rcE Ow Dn n)) ∧ RCm w V w' p b k s q g L r nb va vb Ow Dn B cs n := by
  refine (rcommit_any h.two.rp hL.2.2.2.2 (by omega) n).mono ?_
  rintro e w' (⟨h1, rfl, hb⟩ | ⟨h1, rfl, ⟨vb', hR⟩, ht⟩)
  · have hE : rcE Ow Dn n = 14 := by unfold rcE; rw [if_pos h1]
    exact ⟨by rw [hE], nb, va, vb, Ow, Dn, by omega, h.same hb, .inl ⟨by rw [hE]; decide, rfl, rfl⟩⟩
  · have hE : rcE Ow Dn n = 0 := by unfold rcE; rw [h1]; rfl
    exact ⟨by rw [hE], nb + 1, va, vb', _, _, Nat.le_refl _, h.ref hx ht hR, .inr ⟨hE, rfl, rfl⟩⟩
/-- Release. -/
def rlE (g : Int → Option Sh) (n : Int) : Int := if (g n).isSome = true then 0 else 14
def PRl (w V W' : World) (p b k s q : Nat) (g : Int → Option Sh) (r nb : Nat) (va vb : Value) (Ow Dn : List Int) (B : Nat) (cs : Array Value) (n : Int) : Prop :=
  ∃ k' g' L', k' ≤ k + 1 ∧ Md w V W' p b k' s q g' L' r nb va vb Ow Dn B cs ∧ ((rlE g n ≠ 0 ∧ g' = g) ∨ (rlE g n = 0 ∧ (g n).isSome = true ∧ g' = fun m => if m = n then none else g m))
theorem Md.release (h : Md w V W p b k s q g L r nb va vb Ow Dn B cs) (hx : ¬ PX b r va vb B) {n : Int} (hn : (Lit.int .i64 n).wf = true) :
    Calls Try.prog 25 #[.pointer (some ⟨p, 0, none⟩), .int .i64 n] W fun e w' => e = .returned (.int .i64 (rlE g n)) ∧ PRl w V w' p b k s q g r nb va vb Ow Dn B cs n := by
  cases hg : (g n).isSome with
  | false =>
    have hE : rlE g n = 14 := by unfold rlE; rw [hg]; rfl
    refine (release_no h.two.st.pool hn hg).mono ?_
    rintro e w' ⟨rfl, hb⟩
    exact ⟨by rw [hE], k, g, L, by omega, h.next hb, .inl ⟨by rw [hE]; decide, rfl⟩⟩
  | true =>
    have hE : rlE g n = 0 := by unfold rlE; rw [hg]; rfl
    refine (release_ok h.two.st.pool hn hg).mono ?_
    rintro e w' ⟨rfl, ht⟩
    obtain ⟨L', hM⟩ := h.prog hx ht (h.two.st.own.del n)
    exact ⟨by rw [hE], k, _, L', by omega, hM, .inr ⟨hE, hg, rfl⟩⟩
/-- The document's Release. -/
def rrlE (Ow : List Int) (n : Int) : Int := if rh Ow n = true then 0 else 14
def RRl (w V W' : World) (p b k s q : Nat) (g : Int → Option Sh) (L : List Int) (r nb : Nat) (va vb : Value) (Ow Dn : List Int) (B : Nat) (cs : Array Value) (n : Int) : Prop :=
  ∃ nb' va' vb' Ow' Dn', nb' ≤ nb + 1 ∧ En w V W' p b k s q g L r nb' va vb va' vb' Ow' Dn' B cs ∧ ((rrlE Ow n ≠ 0 ∧ Ow' = Ow ∧ Dn' = Dn) ∨ (rrlE Ow n = 0 ∧ Ow' = gv (Mk.ofL (hv Ow n (s * q))) (-1) Ow (s * q) ∧ Dn' = rmD Dn n))
theorem Md.rrelease (h : Md w V W p b k s q g L r nb va vb Ow Dn B cs) (hx : ¬ PX b r va vb B) (hL : LOk s q) (hd : nb ≤ 900) (n : Int) :
    Calls Try.prog 36 #[.pointer (some ⟨r, 0, none⟩), .int .i64 n] W fun e w' => e = .returned (.int .i64 (rrlE Ow n)) ∧ RRl w V w' p b k s q g L r nb va vb Ow Dn B cs n := by
  refine (rrelease_any h.two.rp hL.2.2.2.2 hL.pos (by omega) n).mono ?_
  rintro e w' (⟨h1, rfl, hb⟩ | ⟨h1, rfl, ⟨vb', nb', h2, hR⟩, ht⟩)
  · have hE : rrlE Ow n = 14 := by unfold rrlE; rw [h1]; rfl
    exact ⟨by rw [hE], nb, va, vb, Ow, Dn, by omega, h.same hb, .inl ⟨by rw [hE]; decide, rfl, rfl⟩⟩
  · have hE : rrlE Ow n = 0 := by unfold rrlE; rw [h1]; rfl
    exact ⟨by rw [hE], nb', va, vb', _, _, by omega, h.ref hx ht hR, .inr ⟨hE, rfl, rfl⟩⟩
/-- Reserve that is refused; that gives masks. -/
theorem Md.res_no (h : Md w V W p b k s q g L r nb va vb Ow Dn B cs) (hL : LOk s q) (hk : k ≤ 900) {n : Int} (hn : (Lit.int .i64 n).wf = true) (x0 x1 x2 x3 : Nat) (rr pe d : Int) (hE : rsE s q g n rr pe d ≠ 0) :
    Calls Try.prog 26 #[.pointer (some ⟨p, 0, none⟩), .int .i64 n, .agg #[.int .u64 x0, .int .u64 x1, .int .u64 x2, .int .u64 x3, .int .i64 rr, .int .i64 pe, .int .i64 d]] W fun e w' => e = .returned (.tuple #[.slice none 0 0, .int .i64 (rsE s q g n rr pe d)]) ∧ Md w V w' p b k s q g L r nb va vb Ow Dn B cs := by
  refine (reserve_ex h.two.st.pool hL hn x0 x1 x2 x3 rr pe d (by omega)).mono ?_
  rintro e w' (⟨_, rfl, hb⟩ | ⟨h1, _⟩)
  · exact ⟨rfl, h.next hb⟩
  · exact absurd h1 hE
def PRs (w V W W' : World) (p b k s q : Nat) (g : Int → Option Sh) (r nb : Nat) (va vb : Value) (Ow Dn : List Int) (B : Nat) (cs : Array Value) (n : Int) (ms : List (List Nat)) (e : Ending) : Prop :=
  ∃ gm R g' L' c, e = .returned (.tuple #[.slice (some ⟨gm, 0, none⟩) R R, .int .i64 0]) ∧ W.heap.size ≤ gm ∧ MasksAt W' W'.heap.size gm ms ∧ ms.length = R ∧ 1 ≤ R ∧ R ≤ 32 ∧ (∀ m ∈ ms, Mk.W4 m) ∧ c.m = orAll ms ∧ c.t = false ∧ Gvn (s * q) g g' n c ∧ Md w V W' p b (k + 1) s q g' L' r nb va vb Ow Dn B cs
theorem Md.res_ok (h : Md w V W p b k s q g L r nb va vb Ow Dn B cs) (hx : ¬ PX b r va vb B) (hL : LOk s q) (hk : k ≤ 900) {n : Int} (hn : (Lit.int .i64 n).wf = true) (x0 x1 x2 x3 : Nat) (rr pe d : Int) (hE : rsE s q g n rr pe d = 0) :
    Calls Try.prog 26 #[.pointer (some ⟨p, 0, none⟩), .int .i64 n, .agg #[.int .u64 x0, .int .u64 x1, .int .u64 x2, .int .u64 x3, .int .i64 rr, .int .i64 pe, .int .i64 d]] W fun e w' => PRs w V W w' p b k s q g r nb va vb Ow Dn B cs n (rsM s q g rr pe d) e := by
  refine (reserve_ex h.two.st.pool hL hn x0 x1 x2 x3 rr pe d (by omega)).mono ?_
  rintro e w' (⟨h1, _⟩ | ⟨_, h0, hg, gm, R, c, rfl, h1, h2, h3, h4, h5, h6, h7, h8, h9, h10⟩)
  · exact absurd hE h1
  · obtain ⟨L', hM⟩ := h.prog hx h10 (h.two.st.own.put n h8)
    refine ⟨gm, R, _, L', c, rfl, h1, masks_row h2 (fun m hm => (h3 m hm).1), h4, ?_, h5, h3, h6, h7, ⟨h0, hg, h8, h9, rfl⟩, hM⟩
    rcases Nat.eq_zero_or_pos R with e | e
    · subst e
      rw [List.eq_nil_of_length_eq_zero h4] at h6
      exact absurd h6 h8
    · exact e
end
end Go.Proofs.Ythmlibapjhmdbaa
