/- A tally and the document's, side by side: what is kept. -/
import Derived.Test.YtodgkjmkjahkiaaV5
import Derived.Test.YtodgkjmkjahkiaaV6
import Derived.Test.YtodgkjmkjahkiaaU4
namespace Go.Proofs.Ytodgkjmkjahkiaa
open Go.RowKit Go.Maps

theorem bk_ty {w : World} {g : Nat} {t t' : TypeId} {cs cs' : Array Value} (h : Bk w g t cs) (h' : Bk w g t' cs') : t = t' := by
  unfold Bk at h h'
  rw [h] at h'
  injection h' with h'
  injection h'
theorem row_bk {w : World} {base size n g : Nat} {e : TypeId} {v : Value} {xs : List Value} (h : w.ownsRow base e size v n xs) (hb : v.ownBlock = some g) : ∃ cs, Bk w g e cs := by
  rcases h.2 with ⟨rfl, _⟩ | ⟨g', c, cu, rfl, _, h3, _⟩
  · simp [Value.ownBlock] at hb
  · have e : g' = g := by simpa [Value.ownBlock] using hb
    subst e
    exact ⟨cu, h3⟩
/-- All but those blocks, and what is new, is as it was. -/
structure Td (X : Nat → Prop) (w w' : World) : Prop where
  os : w'.os = w.os
  tape : w'.tape = w.tape
  output : w'.output = w.output
  size : w.heap.size ≤ w'.heap.size
  block : ∀ i, i < w.heap.size → ¬ X i → w'.heap[i]? = w.heap[i]?
section
variable {w w1 w' : World} {X : Nat → Prop}
theorem Td.trans (h : Td X w w1) (g : Td X w1 w') : Td X w w' :=
  ⟨g.os.trans h.os, g.tape.trans h.tape, g.output.trans h.output, Nat.le_trans h.size g.size, fun i hi hx => (g.block i (Nat.lt_of_lt_of_le hi h.size) hx).trans (h.block i hi hx)⟩
theorem Td.of_grown {b : Nat} (h : w.grownBy w' (some b)) (hb : X b) : Td X w w' :=
  ⟨h.os, h.tape, h.output, h.size, fun i hi hx => h.block i hi (by rintro ⟨⟩; exact hx hb)⟩
theorem Td.of_grown' {o : Option Nat} (h : w.grownBy w' o) (hb : ∀ b, o = some b → X b) : Td X w w' :=
  ⟨h.os, h.tape, h.output, h.size, fun i hi hx => h.block i hi (fun e => hx (hb i e.symm))⟩
theorem Td.of_below (h : Below w.heap.size w w') : Td X w w' := ⟨h.os, h.tape, h.output, h.size, fun i hi _ => h.block i hi⟩
theorem Td.low {m : Nat} (h : Td X w w') (hm : m ≤ w.heap.size) (hx : ∀ g, X g → m ≤ g) : Below m w w' :=
  ⟨h.os, h.tape, h.output, h.size, fun i hi => h.block i (by omega) (fun q => by have := hx i q; omega)⟩
theorem Bk.td {g : Nat} {t : TypeId} {cs : Array Value} (h : Bk w g t cs) (d : Td X w w') (hx : ¬ X g) : Bk w' g t cs := (d.block g h.lt hx).trans h
theorem own_td {base size n : Nat} {e : TypeId} {v : Value} {xs : List Value} (h : w.ownsRow base e size v n xs) (d : Td X w w') (hx : ∀ g, v.ownBlock = some g → ¬ X g) : w'.ownsRow base e size v n xs := by
  refine ⟨h.1, ?_⟩
  rcases h.2 with h0 | ⟨g, cap, cur, h1, h2, h3, h4⟩
  · exact .inl h0
  · subst h1
    exact .inr ⟨g, cap, cur, rfl, h2, (d.block g (Array.getElem?_eq_some_iff.1 h3).1 (hx g (by simp [Value.ownBlock]))).trans h3, h4⟩
theorem ints_td {A : Option Addr} {zs : List Int} (h : IntsAt w A zs) (d : Td X w w') (hx : ∀ a, A = some a → ¬ X a.block) : IntsAt w' A zs := by
  rcases h with e | ⟨ad, e, h1, h2⟩
  · exact .inl e
  · refine .inr ⟨ad, e, Nat.lt_of_lt_of_le h1 d.size, fun j hj => ?_⟩
    rw [← h2 j hj]
    simp only [World.cell?, block_add]
    rw [d.block ad.block h1 (hx ad e)]
theorem MpAt.td {b k : Nat} {t : TypeId} {L : List En} (h : MpAt w b k t L) (d : Td X w w') (hb : ¬ X b) (hc : ∀ x ∈ L, ¬ X x.b) : MpAt w' b k t L := by
  refine ⟨?_, fun x hx => (h.cells x hx).td d (hc x hx), h.up, h.wfs⟩
  obtain ⟨D, ho, hS⟩ := h.own
  have hlt := ho.lt
  obtain ⟨es, cl, q1, q2⟩ := ho
  exact ⟨D, ⟨es, cl, (d.block b hlt hb).trans q1, q2⟩, hS⟩
theorem TaIn.td {p bv bc k m c : Nat} {T : Tv} {A : Option Addr} {V C : List En} (h : TaIn w p bv bc k T A m c V C) (d : Td X w w') (hp : ¬ X p) (hv : ¬ X bv) (hc : ¬ X bc) (hA : ∀ a, A = some a → ¬ X a.block) (hV : ∀ x ∈ V, ¬ X x.b) (hC : ∀ x ∈ C, ¬ X x.b) : TaIn w' p bv bc k T A m c V C :=
  ⟨h.blk.td d hp, ⟨ints_td h.ints.ints d hA, h.ints.len, h.ints.most⟩, h.mv.td d hv hV, h.mc.td d hc hC, h.av, h.ac, h.ok, h.ne⟩
theorem RTal.td {q n : Nat} {va vb vc : Value} {T : Tv} (h : RTal w q va vb vc n T) (d : Td X w w') (hq : ¬ X q) (ha : ∀ g, va.ownBlock = some g → ¬ X g) (hb : ∀ g, vb.ownBlock = some g → ¬ X g) (hc : ∀ g, vc.ownBlock = some g → ¬ X g) : RTal w' q va vb vc n T :=
  ⟨⟨h.r.blk.td d hq, own_td h.r.ra d ha, own_td h.r.rb d hb, own_td h.r.rc d hc, h.r.ab, h.r.ac, h.r.bc⟩, h.ln, h.lv, h.lc, h.most, h.pos⟩
end
/-- A block that holds a map. -/
def IsMp (w : World) (g : Nat) : Prop := ∃ k t L, MpAt w g k t L
theorem IsMp.ne {w : World} {g : Nat} (h : IsMp w g) {b : Nat} {t : TypeId} {cs : Array Value} (hb : Bk w b t cs) : b ≠ g := by
  obtain ⟨k, t, L, hm⟩ := h
  exact hm.ne hb
theorem IsMp.ne_ints {w : World} {g : Nat} (h : IsMp w g) {a : Addr} {v : Value} (hc : w.cell? a = some v) : a.block ≠ g := by
  obtain ⟨k, t, L, hm⟩ := h
  exact hm.cell_ne hc
/-- A tally in memory, of which nothing lies in those blocks. -/
structure TalX (w : World) (p bv bc k : Nat) (T : Tv) (S : Nat → Prop) : Prop where
  ex : ∃ A m c V C, TaIn w p bv bc k T A m c V C ∧ (∀ a, A = some a → ¬ S a.block) ∧ ∀ x ∈ C, ¬ S x.b
section
variable {w w' : World} {p bv bc k : Nat} {T : Tv} {S : Nat → Prop}
theorem TalX.tal (h : TalX w p bv bc k T S) : TalAt w p bv bc k T := by
  obtain ⟨A, m, c, V, C, h, _⟩ := h.ex
  exact ⟨A, m, c, V, C, h⟩
theorem TalX.next (h : TalX w p bv bc k T S) (hb : Below w.heap.size w w') : TalX w' p bv bc k T S := by
  obtain ⟨A, m, c, V, C, h, h1, h2⟩ := h.ex
  exact ⟨A, m, c, V, C, h.next hb, h1, h2⟩
theorem TalX.few {k' : Nat} (h : TalX w p bv bc k T S) (hk : k ≤ k') : TalX w p bv bc k' T S := by
  obtain ⟨A, m, c, V, C, h, h1, h2⟩ := h.ex
  exact ⟨A, m, c, V, C, h.few hk, h1, h2⟩
theorem TalX.vote (h : TalX w p bv bc k T S) (hk : k ≤ 900) (n : Int) (y : Bool) :
    Calls Try.prog 41 #[.pointer (some ⟨p, 0, none⟩), .int .i64 n, .bool y] w fun e w' => e = .returned (.int .i64 (voteE T n y)) ∧ TalX w' p bv bc (k + 1) (voteT T n y) S ∧ w.grownBy w' (some bv) := by
  obtain ⟨A, m, c, V, C, h, h1, h2⟩ := h.ex
  refine (vote_x h hk n y).mono ?_
  rintro e w' ⟨rfl, ⟨V', h3⟩, hg⟩
  exact ⟨rfl, ⟨A, m, c, V', C, h3, h1, h2⟩, hg⟩
theorem TalX.exit (h : TalX w p bv bc k T S) (hS : ∀ g, S g → g < w.heap.size) (hk : k ≤ 900) (n y : Int) :
    Calls Try.prog 42 #[.pointer (some ⟨p, 0, none⟩), .int .i64 n, .int .i64 y] w fun e w' => e = .returned (.int .i64 (exitE T n y)) ∧ TalX w' p bv bc (k + 1) (exitT T n y) S ∧ w.grownBy w' (some bc) := by
  obtain ⟨A, m, c, V, C, h, h1, h2⟩ := h.ex
  refine (exit_x h hk n y).mono ?_
  rintro e w' ⟨rfl, ⟨C', h3, h4⟩, hg⟩
  refine ⟨rfl, ⟨A, m, c, V, C', h3, h1, fun x hx hs => ?_⟩, hg⟩
  rcases h4 x hx with q | q
  · exact h2 x q hs
  · have := hS _ hs; omega
/-- Kept, while maps of others, and blocks of that kind, have turned. -/
theorem TalX.td {X : Nat → Prop} (h : TalX w p bv bc k T S) (d : Td X w w') (hX : ∀ g, X g → (IsMp w g ∧ g ≠ bv ∧ g ≠ bc) ∨ (S g ∧ ∃ cs, Bk w g 3 cs)) : TalX w' p bv bc k T S := by
  obtain ⟨A, m, c, V, C, h, h1, h2⟩ := h.ex
  have hp : okN T.ns = true := h.ok
  refine ⟨A, m, c, V, C, h.td d (fun q => ?_) (fun q => ?_) (fun q => ?_) (fun a ha q => ?_) (fun x hx q => ?_) (fun x hx q => ?_), h1, h2⟩
  · rcases hX _ q with ⟨r, _⟩ | ⟨_, cs, r⟩
    · exact r.ne h.blk rfl
    · cases bk_ty h.blk r
  · rcases hX _ q with ⟨_, r, _⟩ | ⟨_, cs, r⟩
    · exact r rfl
    · exact h.mv.ne r rfl
  · rcases hX _ q with ⟨_, _, r⟩ | ⟨_, cs, r⟩
    · exact r rfl
    · exact h.mc.ne r rfl
  · rcases hX _ q with ⟨r, _⟩ | ⟨r, _⟩
    · rcases h.ints.ints with e | ⟨ad, e, g1, g2⟩
      · have := (okN_iff.1 hp).2
        rw [e] at this
        cases this
      · rw [ha] at e
        cases e
        have := g2 0 (okN_iff.1 hp).2
        have := r.ne_ints this
        rw [block_add] at this
        exact this rfl
    · exact h1 a ha r
  · rcases hX _ q with ⟨r, _⟩ | ⟨_, cs, r⟩
    · exact r.ne (h.mv.cells x hx) rfl
    · cases bk_ty (h.mv.cells x hx) r
  · rcases hX _ q with ⟨r, _⟩ | ⟨r, _⟩
    · exact r.ne (h.mc.cells x hx) rfl
    · exact h2 x hx r
end
/-- A call's turning of a tally. -/
def opT (T : Tv) (o : Op4) : Tv := if o.v then voteT T o.n o.y else exitT T o.n o.c
/-- A tally, and the document's. -/
structure Pr (w : World) (p bv bc q : Nat) (va vb vc : Value) (n k : Nat) (T : Tv) (S : Nat → Prop) : Prop where
  t : TalX w p bv bc k T S
  r : RTal w q va vb vc n T
  sb : ∀ g, vb.ownBlock = some g → S g
  sc : ∀ g, vc.ownBlock = some g → S g
  sl : ∀ g, S g → g < w.heap.size
/-- What a call on both turns. -/
def XP (bv bc : Nat) (vb vc : Value) (g : Nat) : Prop := g = bv ∨ g = bc ∨ vb.ownBlock = some g ∨ vc.ownBlock = some g
section
variable {w w' : World} {p bv bc q n k : Nat} {va vb vc : Value} {T : Tv} {S : Nat → Prop}
theorem Pr.next (h : Pr w p bv bc q va vb vc n k T S) (hb : Below w.heap.size w w') : Pr w' p bv bc q va vb vc n k T S :=
  ⟨h.t.next hb, h.r.td (X := fun _ => False) (Td.of_below hb) (fun h => h) (fun _ _ h => h) (fun _ _ h => h) (fun _ _ h => h), h.sb, h.sc, fun g hg => Nat.lt_of_lt_of_le (h.sl g hg) hb.size⟩
theorem Pr.few (h : Pr w p bv bc q va vb vc n k T S) {k' : Nat} (hk : k ≤ k') : Pr w p bv bc q va vb vc n k' T S :=
  ⟨h.t.few hk, h.r, h.sb, h.sc, h.sl⟩
theorem Pr.mps (h : Pr w p bv bc q va vb vc n k T S) : IsMp w bv ∧ IsMp w bc := h.t.tal.maps
/-- Kept, while another pair has turned. -/
theorem Pr.td {X : Nat → Prop} (h : Pr w p bv bc q va vb vc n k T S) (d : Td X w w') (hX : ∀ g, X g → (IsMp w g ∧ g ≠ bv ∧ g ≠ bc) ∨ (S g ∧ (∃ cs, Bk w g 3 cs) ∧ va.ownBlock ≠ some g ∧ vb.ownBlock ≠ some g ∧ vc.ownBlock ≠ some g)) : Pr w' p bv bc q va vb vc n k T S := by
  refine ⟨h.t.td d fun g hg => (hX g hg).imp id fun r => ⟨r.1, r.2.1⟩, h.r.td d (fun r => ?_) (fun g hg r => ?_) (fun g hg r => ?_) (fun g hg r => ?_), h.sb, h.sc, fun g hg => Nat.lt_of_lt_of_le (h.sl g hg) d.size⟩
  · rcases hX _ r with ⟨r, _⟩ | ⟨_, ⟨cs, r⟩, _⟩
    · exact r.ne h.r.r.blk rfl
    · cases bk_ty h.r.r.blk r
  · rcases hX _ r with ⟨r, _⟩ | ⟨_, _, r, _⟩
    · obtain ⟨cs, hc⟩ := row_bk h.r.r.ra hg
      exact r.ne hc rfl
    · exact r hg
  · rcases hX _ r with ⟨r, _⟩ | ⟨_, _, _, r, _⟩
    · obtain ⟨cs, hc⟩ := row_bk h.r.r.rb hg
      exact r.ne hc rfl
    · exact r hg
  · rcases hX _ r with ⟨r, _⟩ | ⟨_, _, _, _, r⟩
    · obtain ⟨cs, hc⟩ := row_bk h.r.r.rc hg
      exact r.ne hc rfl
    · exact r hg
/-- The document's, while a map has turned. -/
theorem RTal.mp {g : Nat} (h : RTal w q va vb vc n T) (m : IsMp w g) (hg : w.grownBy w' (some g)) : RTal w' q va vb vc n T := by
  have d : Td (fun i => i = g) w w' := Td.of_grown hg rfl
  refine h.td d (fun e => m.ne h.r.blk e) (fun b hb e => ?_) (fun b hb e => ?_) (fun b hb e => ?_)
  · obtain ⟨cs, hc⟩ := row_bk h.r.ra hb
    exact m.ne hc e
  · obtain ⟨cs, hc⟩ := row_bk h.r.rb hb
    exact m.ne hc e
  · obtain ⟨cs, hc⟩ := row_bk h.r.rc hb
    exact m.ne hc e
theorem TalX.row {o : Option Nat} (h : TalX w p bv bc k T S) (hS : ∀ g, o = some g → S g ∧ ∃ cs, Bk w g 3 cs) (hg : w.grownBy w' o) : TalX w' p bv bc k T S :=
  h.td (X := fun i => o = some i) (Td.of_grown' hg fun _ e => e) fun g hg => .inr (hS g hg)
/-- Half a call: of the tally alone. -/
structure Hf (w : World) (p bv bc q : Nat) (va vb vc : Value) (n k : Nat) (T U : Tv) (S : Nat → Prop) : Prop where
  t : TalX w p bv bc k T S
  r : RTal w q va vb vc n U
  sb : ∀ g, vb.ownBlock = some g → S g
  sc : ∀ g, vc.ownBlock = some g → S g
  sl : ∀ g, S g → g < w.heap.size
theorem Pr.hf (h : Pr w p bv bc q va vb vc n k T S) : Hf w p bv bc q va vb vc n k T T S := ⟨h.t, h.r, h.sb, h.sc, h.sl⟩
theorem Hf.pr (h : Hf w p bv bc q va vb vc n k T T S) : Pr w p bv bc q va vb vc n k T S := ⟨h.t, h.r, h.sb, h.sc, h.sl⟩
theorem Pr.vote (h : Pr w p bv bc q va vb vc n k T S) (hk : k ≤ 900) (x : Int) (y : Bool) :
    Calls Try.prog 41 #[.pointer (some ⟨p, 0, none⟩), .int .i64 x, .bool y] w fun e w' => e = .returned (.int .i64 (voteE T x y)) ∧ Hf w' p bv bc q va vb vc n (k + 1) (voteT T x y) T S ∧ Td (XP bv bc vb vc) w w' := by
  refine (h.t.vote hk x y).mono ?_
  rintro e w' ⟨rfl, h1, hg⟩
  exact ⟨rfl, ⟨h1, h.r.mp h.mps.1 hg, h.sb, h.sc, fun g hs => Nat.lt_of_lt_of_le (h.sl g hs) hg.size⟩, Td.of_grown hg (.inl rfl)⟩
theorem Pr.exit (h : Pr w p bv bc q va vb vc n k T S) (hk : k ≤ 900) (x y : Int) :
    Calls Try.prog 42 #[.pointer (some ⟨p, 0, none⟩), .int .i64 x, .int .i64 y] w fun e w' => e = .returned (.int .i64 (exitE T x y)) ∧ Hf w' p bv bc q va vb vc n (k + 1) (exitT T x y) T S ∧ Td (XP bv bc vb vc) w w' := by
  refine (h.t.exit h.sl hk x y).mono ?_
  rintro e w' ⟨rfl, h1, hg⟩
  exact ⟨rfl, ⟨h1, h.r.mp h.mps.2 hg, h.sb, h.sc, fun g hs => Nat.lt_of_lt_of_le (h.sl g hs) hg.size⟩, Td.of_grown hg (.inr (.inl rfl))⟩
theorem Hf.vote {U : Tv} (h : Hf w p bv bc q va vb vc n k T U S) (x : Int) (y : Bool) :
    Calls Try.prog 56 #[.pointer (some ⟨q, 0, none⟩), .int .i64 x, .bool y] w fun e w' => e = .returned (.int .i64 (voteE U x y)) ∧ Hf w' p bv bc q va vb vc n k T (voteT U x y) S ∧ Td (XP bv bc vb vc) w w' := by
  refine (rvote_any h.r x y).mono ?_
  rintro e w' ⟨rfl, h1, hg⟩
  exact ⟨rfl, ⟨h.t.row (fun g e => ⟨h.sb g e, row_bk h.r.r.rb e⟩) hg, h1, h.sb, h.sc, fun g hs => Nat.lt_of_lt_of_le (h.sl g hs) hg.size⟩, Td.of_grown' hg fun _ e => .inr (.inr (.inl e))⟩
theorem Hf.exit {U : Tv} (h : Hf w p bv bc q va vb vc n k T U S) (x y : Int) :
    Calls Try.prog 57 #[.pointer (some ⟨q, 0, none⟩), .int .i64 x, .int .i64 y] w fun e w' => e = .returned (.int .i64 (exitE U x y)) ∧ Hf w' p bv bc q va vb vc n k T (exitT U x y) S ∧ Td (XP bv bc vb vc) w w' := by
  refine (rexit_any h.r x y).mono ?_
  rintro e w' ⟨rfl, h1, hg⟩
  exact ⟨rfl, ⟨h.t.row (fun g e => ⟨h.sc g e, row_bk h.r.r.rc e⟩) hg, h1, h.sb, h.sc, fun g hs => Nat.lt_of_lt_of_le (h.sl g hs) hg.size⟩, Td.of_grown' hg fun _ e => .inr (.inr (.inr e))⟩
end
end Go.Proofs.Ytodgkjmkjahkiaa
