/- Blocks in memory; rows of texts; what may turn. -/
import Derived.Test.YtlhfijjjfolldaaRows
import Derived.WalkKit
import Derived.WalkSpells
import Derived.WalkLawsBesides
import Derived.Laws.Rows
import Derived.Deep.Draws
import Derived.StillTailTactics
import Derived.OwnWalk
import Derived.Laws.CopyOwn
import Derived.BigQuiet
import Derived.Deep.QuietTactic
import Derived.IntWalk
import Derived.Lib.Hide
import Derived.Deep.RegionHeld3
import Derived.Lib.SmallJoins
import Derived.Maps.AppendAt
import Derived.Laws.OwnMore
import Derived.Lib.SliceRun
import Derived.Deep.RegionLaw
import Derived.Deep.LoopGhost
import Derived.Deep.DeepCutAuto
namespace Go.Proofs.Ytlhfijjjfolldaa
open Go.RowKit Go.Maps

/-- Block g is just these cells. -/
def Bk (w : World) (g : Nat) (t : TypeId) (cs : Array Value) : Prop := w.heap[g]? = some (.cells cs t (0, 0))
section
variable {w w' : World} {B g b : Nat} {t : TypeId} {cs : Array Value}
theorem Bk.lt (h : Bk w g t cs) : g < w.heap.size := (Array.getElem?_eq_some_iff.1 h).1
theorem Bk.cell (h : Bk w g t cs) (i : Nat) (v : Value) (hv : cs[i]? = some v) : w.cell? ⟨g, i, none⟩ = some v := (cell_of_row w g i cs t (0, 0) h).trans hv
theorem Bk.frozen (h : Bk w g t cs) (i : Nat) : w.frozen? ⟨g, i, none⟩ = false := frozen_of_row w g i cs t h
theorem Bk.below (h : Bk w g t cs) (hb : Below B w w') (hg : g < B) : Bk w' g t cs := (hb.block g hg).trans h
theorem Bk.next (h : Bk w g t cs) (hb : Below w.heap.size w w') : Bk w' g t cs := h.below hb h.lt
theorem Bk.alloc (h : Bk w g t cs) (o : Obj) : Bk (w.alloc o) g t cs := (Below.heap_alloc w o g h.lt).trans h
theorem Bk.new (w : World) (t : TypeId) (cs : Array Value) : Bk (w.alloc (.cells cs t)) w.heap.size t cs := heap_alloc_new w _
theorem Bk.grown (h : Bk w g t cs) (hg : w.grownBy w' (some b)) (hne : g ≠ b) : Bk w' g t cs := (hg.block g h.lt (by simpa using hne)).trans h
theorem Bk.drew (h : Bk w g t cs) : Bk w.drew g t cs := h
theorem Bk.hid {w2 : World} (h : Bk w g t cs) (e : Hid (w2 = w.drew)) : Bk w2 g t cs := by rw [e.out]; exact h.drew
end
theorem bmore {a b c : World} (h : Below a.heap.size a b) (k : Below b.heap.size b c) : Below a.heap.size a c := h.trans (k.mono h.size)
theorem size_alloc (w : World) (o : Obj) : (w.alloc o).heap.size = w.heap.size + 1 := by simp
theorem only_of_below {a w : World} (h : Below a.heap.size a w) : a.grownBy w none := ⟨h.os, h.tape, h.output, h.size, fun i hi _ => h.block i hi⟩
theorem below_alloc (w : World) (o : Obj) : Below w.heap.size w (w.alloc o) := (Below.refl _ _).alloc (Nat.le_refl _) o
/-- A region that draws its order, reads and calls quietly, and ends in a forced tail: its world under a name. -/
theorem region_tail {P : Program} {id : Nat} {Q : Exit → Act → World → Prop} {a : Act} {w : World} {l : List Oper} (n : Nat) (hm : P.follows .mixedOrders = true) (hB : Region.lexTailB .any l.toArray n = true)
    (h : ∀ w2, Hid (w2 = w.drew) → wpStill P l.toArray w2 (fun a' => wpList P l.toArray Q (l.drop n) a' w2) (l.take n) a) : (Code.region id l.toArray true).wp P Q a w :=
  wp_region_still_tail n hm hB (h _ rfl)
theorem region_still {P : Program} {id : Nat} {Q : Exit → Act → World → Prop} {a : Act} {w : World} {l : List Oper} (hm : P.follows .mixedOrders = true) (hB : Region.lexB .any l.toArray = true)
    (h : ∀ w2, Hid (w2 = w.drew) → wpStill P l.toArray w2 (fun a' => Q .normal a' w2) l a) : (Code.region id l.toArray true).wp P Q a w :=
  wp_region_still_lit hm hB (h _ rfl)
theorem below_hid {B : Nat} {a w w2 : World} (h : Below B a w) (e : Hid (w2 = w.drew)) : Below B a w2 := by rw [e.out]; exact h.drew

theorem block_add (a : Addr) (n : Nat) : (a.add n).block = a.block := by unfold Addr.add; split <;> rfl
theorem Bk.set {w : World} {g : Nat} {t : TypeId} {cs : Array Value} (h : Bk w g t cs) (i : Nat) (v : Value) : Bk (w.setCell ⟨g, i, none⟩ v) g t (cs.set! i v) := by
  have := heap_setCell_same w g i _ t v h
  simpa [Bk] using this
/-- An int. -/
abbrev wf (n : Int) : Prop := (Lit.int .i64 n).wf = true
theorem wf_iff {n : Int} : wf n ↔ -9223372036854775808 ≤ n ∧ n ≤ 9223372036854775807 := by
  simp [wf, Lit.wf, show IntKind.i64.min = -9223372036854775808 from rfl, show IntKind.i64.max = 9223372036854775807 from rfl]
theorem bk_ne {V : World} {g g' t t' : Nat} {cs cs' : Array Value} (h : Bk V g t cs) (h' : Bk V g' t' cs') (ht : t ≠ t') : g ≠ g' := by
  rintro rfl
  unfold Bk at h h'
  rw [h] at h'
  injection h' with h'
  injection h' with _ h'
  exact ht h'
theorem own_form {w : World} {base size n : Nat} {e : TypeId} {v : Value} {xs : List Value} (h : w.ownsRow base e size v n xs) : ∃ A cap, v = .slice A n cap := by
  rcases Joins.ownsRow_forms h with ⟨rfl, rfl⟩ | ⟨g, cap, rfl⟩
  · exact ⟨none, 0, rfl⟩
  · exact ⟨_, cap, rfl⟩
theorem own_next {w w' : World} {base size n : Nat} {e : TypeId} {v : Value} {xs : List Value} (h : w.ownsRow base e size v n xs) (hb : Below w.heap.size w w') : w'.ownsRow base e size v n xs := by
  refine ⟨h.1, ?_⟩
  rcases h.2 with h0 | ⟨g, cap, cur, h1, h2, h3, h4⟩
  · exact .inl h0
  · exact .inr ⟨g, cap, cur, h1, h2, (hb.block g (Array.getElem?_eq_some_iff.1 h3).1).trans h3, h4⟩
/-- Behind an append onto a slice of its own: what lies below is as it was. -/
theorem appended_below {W w1 : World} {n₀ : Nat} {e : TypeId} {size : Nat} {v : Value} {k : Nat} {xs : List Value} {tmp : Obj} (hrow : W.ownsRow n₀ e size v k xs) (hn₀ : n₀ ≤ W.heap.size) (hgrow : (W.alloc tmp).grownBy w1 v.ownBlock) : Below n₀ W w1 := by
  refine ((Below.refl n₀ W).alloc hn₀ tmp).grown hgrow (by simp; omega) fun j ej => ?_
  rcases hrow.2 with ⟨rfl, _⟩ | ⟨g, cap, cur, rfl, hb, _, _⟩
  · simp [Value.ownBlock] at ej
  · obtain rfl : g = j := by simpa [Value.ownBlock] using ej
    exact hb


/-- A row's block is of its own. -/
theorem own_new {w : World} {base n cap m : Nat} {e : TypeId} {size : Nat} {A : Option Addr} {xs : List Value} (h : w.ownsRow base e size (.slice A n cap) m xs) : ∀ ad, A = some ad → base ≤ ad.block := by
  rintro ad rfl
  rcases h.2 with ⟨e, _⟩ | ⟨_, _, _, e, hb, _⟩
  · cases e
  · cases e
    exact hb
/-- All blocks but these are as they were. -/
structure Td (X : Nat → Prop) (w w' : World) : Prop where
  os : w'.os = w.os
  tape : w'.tape = w.tape
  output : w'.output = w.output
  size : w.heap.size ≤ w'.heap.size
  block : ∀ k, k < w.heap.size → ¬ X k → w'.heap[k]? = w.heap[k]?
section
variable {X : Nat → Prop} {a b c w w' : World}
theorem Td.of_below (h : Below w.heap.size w w') : Td X w w' := ⟨h.os, h.tape, h.output, h.size, fun k hk _ => h.block k hk⟩
theorem Td.trans (h : Td X a b) (k : Td X b c) : Td X a c :=
  ⟨k.os.trans h.os, k.tape.trans h.tape, k.output.trans h.output, Nat.le_trans h.size k.size, fun i hi hx => (k.block i (Nat.lt_of_lt_of_le hi h.size) hx).trans (h.block i hi hx)⟩
theorem Td.grown {row : Option Nat} (h : w.grownBy w' row) (hr : ∀ k, row = some k → X k) : Td X w w' := ⟨h.os, h.tape, h.output, h.size, fun k hk hx => h.block k hk (fun e => hx (hr k e.symm))⟩
theorem Td.set (p : Addr) (hx : X p.block) (u : Value) : Td X w (w.setCell p u) :=
  ⟨rfl, rfl, rfl, by simp [World.setCell], fun k _ hk => Below.heap_setCell _ _ _ _ (fun e => hk (e ▸ hx))⟩
theorem Td.below (h : Td X w w') {B : Nat} (hB : ∀ i, X i → B ≤ i) (hs : B ≤ w.heap.size) : Below B w w' :=
  ⟨h.os, h.tape, h.output, h.size, fun k hk => h.block k (Nat.lt_of_lt_of_le hk hs) (fun hx => by have := hB k hx; omega)⟩
theorem Td.bk {g : Nat} {t : TypeId} {cs : Array Value} (h : Td X w w') (hb : Bk w g t cs) (hx : ¬ X g) : Bk w' g t cs := (h.block g hb.lt hx).trans hb
end
/-- A row's block. -/
theorem row_bk {w : World} {base size n g : Nat} {e : TypeId} {v : Value} {xs : List Value} (h : w.ownsRow base e size v n xs) (hb : v.ownBlock = some g) : base ≤ g ∧ ∃ cs, Bk w g e cs := by
  rcases h.2 with ⟨rfl, _⟩ | ⟨g', c, cu, rfl, h2, h3, _⟩
  · simp [Value.ownBlock] at hb
  · have e : g' = g := by simpa [Value.ownBlock] using hb
    subst e
    exact ⟨h2, _, h3⟩
theorem row_kept {w w' : World} {base size n : Nat} {e : TypeId} {v : Value} {xs : List Value} (h : w.ownsRow base e size v n xs) (hg : ∀ g, v.ownBlock = some g → w'.heap[g]? = w.heap[g]?) : w'.ownsRow base e size v n xs := by
  refine ⟨h.1, ?_⟩
  rcases h.2 with h0 | ⟨g, cap, cur, h1, h2, h3, h4⟩
  · exact .inl h0
  · subst h1
    exact .inr ⟨g, cap, cur, rfl, h2, (hg g (by simp [Value.ownBlock])).trans h3, h4⟩
theorem add_at (g k : Nat) : (⟨g, 0, none⟩ : Addr).add k = ⟨g, k, none⟩ := by unfold Addr.add; split <;> simp_all
abbrev Str := ByteArray
/-- Texts as values. -/
def sv (l : List Str) : List Value := l.map Value.string
theorem sv_len (l : List Str) : (sv l).length = l.length := by simp [sv]
theorem sv_app (l r : List Str) : sv (l ++ r) = sv l ++ sv r := by simp [sv]
theorem sv_get (l : List Str) (i : Nat) : (sv l)[i]? = (l[i]?).map Value.string := by simp [sv]
theorem sv_ones (l : List Str) : ∀ u ∈ sv l, u.oneCell' = true := by
  intro u hu
  obtain ⟨x, _, rfl⟩ := List.mem_map.1 hu
  rfl
/-- A slice of texts. -/
def StrsAt (w : World) (A : Option Addr) (zs : List Str) : Prop := zs = [] ∨ ∃ ad, A = some ad ∧ ad.block < w.heap.size ∧ ∀ j u, zs[j]? = some u → w.cell? (ad.add j) = some (.string u)
section
variable {w w' : World} {A : Option Addr} {zs : List Str} {B : Nat} {ad : Addr}
theorem StrsAt.at_ (h : StrsAt w A zs) {k : Nat} {u : Str} (hk : zs[k]? = some u) : ∃ ad, A = some ad ∧ ad.block < w.heap.size ∧ w.cell? (ad.add k) = some (.string u) := by
  rcases h with rfl | ⟨ad, rfl, hb, hc⟩
  · simp at hk
  · exact ⟨ad, rfl, hb, hc k u hk⟩
theorem StrsAt.kept (h : StrsAt w A zs) (hs : w.heap.size ≤ w'.heap.size) (hg : ∀ ad, A = some ad → ad.block < w.heap.size → w'.heap[ad.block]? = w.heap[ad.block]?) : StrsAt w' A zs := by
  rcases h with rfl | ⟨ad, rfl, h1, h2⟩
  · exact .inl rfl
  · exact .inr ⟨ad, rfl, Nat.lt_of_lt_of_le h1 hs, fun j u hu => (World.cell?_of_block (by rw [block_add]; exact hg ad rfl h1)).trans (h2 j u hu)⟩
theorem StrsAt.next (h : StrsAt w A zs) (hb : Below w.heap.size w w') : StrsAt w' A zs := h.kept hb.size fun _ _ h1 => hb.block _ h1
theorem StrsAt.below (h : StrsAt w A zs) (hb : Below B w w') (hB : ∀ ad, A = some ad → ad.block < B) : StrsAt w' A zs := h.kept hb.size fun ad e _ => hb.block _ (hB ad e)
theorem StrsAt.cells (h : StrsAt w (some ad) zs) : ∀ j u, (sv zs)[j]? = some u → w.cell? (ad.add j) = some u := by
  intro j u hu
  rw [sv_get] at hu
  obtain ⟨x, hx, rfl⟩ := Option.map_eq_some_iff.1 hu
  obtain ⟨a, e, _, hc⟩ := h.at_ hx
  cases e
  exact hc
theorem StrsAt.none_ (h : StrsAt w none zs) : zs = [] := by
  rcases h with e | ⟨ad, e, _⟩
  · exact e
  · cases e
theorem StrsAt.take (h : StrsAt w A zs) (n : Nat) : StrsAt w A (zs.take n) := by
  rcases h with rfl | ⟨ad, rfl, h1, h2⟩
  · exact .inl (by simp)
  · refine .inr ⟨ad, rfl, h1, fun j u hu => h2 j u ?_⟩
    rw [List.getElem?_take] at hu
    split at hu
    · exact hu
    · cases hu
theorem strs_row {n cap : Nat} (hn : zs.length = n) (h : w.ownsRow B 9 1 (.slice A n cap) n (sv zs)) : StrsAt w A zs := by
  rcases h.2 with ⟨e, e0⟩ | ⟨g, cap', cur, e, _, hg, _⟩
  · exact .inl (List.length_eq_zero_iff.1 (by omega))
  · injection e with e _ _
    subst e
    refine .inr ⟨_, rfl, (Array.getElem?_eq_some_iff.1 hg).1, fun j u hu => ?_⟩
    exact h.cells (g := g) rfl j _ (by rw [sv_get, hu]; rfl)
end
/-- A net in memory: its struct, its row of messages. -/
structure NtAt (w : World) (p : Nat) (m : Int) (v : Value) (l : List Str) (k : Int) : Prop where
  blk : Bk w p 47 #[.int .i64 m, v, .int .i64 k]
  row : w.ownsRow p 9 1 v l.length (sv l)
  fit : (l.length : Int) ≤ m
  m1 : 1 ≤ m
  m2 : m ≤ 1000
/-- What a net's turn may turn: its struct, its row. -/
def NX (p : Nat) (v : Value) (i : Nat) : Prop := i = p ∨ v.ownBlock = some i
structure Tn (w w' : World) (p : Nat) (v v' : Value) : Prop where
  td : Td (NX p v) w w'
  nw : ∀ g, v'.ownBlock = some g → v.ownBlock = some g ∨ w.heap.size ≤ g
section
variable {w w' w2 : World} {p : Nat} {m k : Int} {v v' v2 : Value} {l : List Str}
theorem NtAt.next (h : NtAt w p m v l k) (hb : Below w.heap.size w w') : NtAt w' p m v l k := ⟨h.blk.next hb, own_next h.row hb, h.fit, h.m1, h.m2⟩
theorem NtAt.td {X : Nat → Prop} (h : NtAt w p m v l k) (t : Td X w w') (h1 : ¬ X p) (h2 : ∀ g, v.ownBlock = some g → ¬ X g) : NtAt w' p m v l k :=
  ⟨t.bk h.blk h1, row_kept h.row fun g e => t.block g (h.row.lt g e).2 (h2 g e), h.fit, h.m1, h.m2⟩
theorem NtAt.ne (h : NtAt w p m v l k) : v.ownBlock ≠ some p := by
  intro e
  obtain ⟨_, cs, hk⟩ := row_bk h.row e
  exact bk_ne hk h.blk (by decide) rfl
theorem Tn.same (hb : Below w.heap.size w w') : Tn w w' p v v := ⟨Td.of_below hb, fun _ e => .inl e⟩
theorem Tn.trans (h : Tn w w' p v v') (k : Tn w' w2 p v' v2) : Tn w w2 p v v2 :=
  ⟨⟨k.td.os.trans h.td.os, k.td.tape.trans h.td.tape, k.td.output.trans h.td.output, Nat.le_trans h.td.size k.td.size, fun i hi hx => by
    refine (k.td.block i (Nat.lt_of_lt_of_le hi h.td.size) ?_).trans (h.td.block i hi hx)
    rintro (e | e)
    · exact hx (.inl e)
    · rcases h.nw i e with q | q
      · exact hx (.inr q)
      · omega⟩, fun g e => by
    rcases k.nw g e with q | q
    · exact h.nw g q
    · exact .inr (Nat.le_trans h.td.size q)⟩
theorem Tn.below {B : Nat} (t : Tn w w' p v v') (h : NtAt w p m v l k) (hB : B ≤ p) : Below B w w' :=
  t.td.below (fun i hi => by
    rcases hi with e | e
    · omega
    · have := (h.row.lt i e).1
      omega) (by have := h.blk.lt; omega)
end
end Go.Proofs.Ytlhfijjjfolldaa
