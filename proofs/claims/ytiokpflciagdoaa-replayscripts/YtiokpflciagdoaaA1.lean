/- Blocks in memory; the leaf functions of replay and cred: isOver, placeOf, outside, areNodes. -/
import Derived.Test.YtiokpflciagdoaaRows
import Derived.WalkKit
import Derived.WalkSpells
import Derived.WalkLawsBesides
import Derived.Laws.Rows
import Derived.Deep.Draws
import Derived.StillTailTactics
import Derived.OwnWalk
import Derived.Laws.CopyOwn
import Derived.BigQuiet
import Derived.Deep.QuietTactic
import Derived.IntWalk
import Derived.Lib.Hide
import Derived.Deep.RegionHeld3
import Derived.Maps.OwnOps
import Derived.Maps.OwnSet
import Derived.Maps.Views
import Derived.Maps.RangeWalk
import Derived.DeepKeys4
namespace Go.Proofs.Ytiokpflciagdoaa
open Go.RowKit

/-- Block g is just these cells. -/
def Bk (w : World) (g : Nat) (t : TypeId) (cs : Array Value) : Prop := w.heap[g]? = some (.cells cs t (0, 0))
section
variable {w w' : World} {B g b : Nat} {t : TypeId} {cs : Array Value}
theorem Bk.lt (h : Bk w g t cs) : g < w.heap.size := (Array.getElem?_eq_some_iff.1 h).1
theorem Bk.cell (h : Bk w g t cs) (i : Nat) (v : Value) (hv : cs[i]? = some v) : w.cell? ⟨g, i, none⟩ = some v := (cell_of_row w g i cs t (0, 0) h).trans hv
theorem Bk.frozen (h : Bk w g t cs) (i : Nat) : w.frozen? ⟨g, i, none⟩ = false := frozen_of_row w g i cs t h
theorem Bk.below (h : Bk w g t cs) (hb : Below B w w') (hg : g < B) : Bk w' g t cs := (hb.block g hg).trans h
theorem Bk.next (h : Bk w g t cs) (hb : Below w.heap.size w w') : Bk w' g t cs := h.below hb h.lt
theorem Bk.alloc (h : Bk w g t cs) (o : Obj) : Bk (w.alloc o) g t cs := (Below.heap_alloc w o g h.lt).trans h
theorem Bk.new (w : World) (t : TypeId) (cs : Array Value) : Bk (w.alloc (.cells cs t)) w.heap.size t cs := heap_alloc_new w _
theorem Bk.grown (h : Bk w g t cs) (hg : w.grownBy w' (some b)) (hne : g ≠ b) : Bk w' g t cs := (hg.block g h.lt (by simpa using hne)).trans h
theorem Bk.drew (h : Bk w g t cs) : Bk w.drew g t cs := h
theorem Bk.hid {w2 : World} (h : Bk w g t cs) (e : Hid (w2 = w.drew)) : Bk w2 g t cs := by rw [e.out]; exact h.drew
end
theorem bmore {a b c : World} (h : Below a.heap.size a b) (k : Below b.heap.size b c) : Below a.heap.size a c := h.trans (k.mono h.size)
theorem size_alloc (w : World) (o : Obj) : (w.alloc o).heap.size = w.heap.size + 1 := by simp
theorem only_of_below {a w : World} (h : Below a.heap.size a w) : a.grownBy w none := ⟨h.os, h.tape, h.output, h.size, fun i hi _ => h.block i hi⟩
theorem below_alloc (w : World) (o : Obj) : Below w.heap.size w (w.alloc o) := (Below.refl _ _).alloc (Nat.le_refl _) o
/-- A region that draws its order, reads and calls quietly, and ends in a forced tail: its world under a name. -/
theorem region_tail {P : Program} {id : Nat} {Q : Exit → Act → World → Prop} {a : Act} {w : World} {l : List Oper} (n : Nat) (hm : P.follows .mixedOrders = true) (hB : Region.lexTailB .any l.toArray n = true)
    (h : ∀ w2, Hid (w2 = w.drew) → wpStill P l.toArray w2 (fun a' => wpList P l.toArray Q (l.drop n) a' w2) (l.take n) a) : (Code.region id l.toArray true).wp P Q a w :=
  wp_region_still_tail n hm hB (h _ rfl)
theorem region_still {P : Program} {id : Nat} {Q : Exit → Act → World → Prop} {a : Act} {w : World} {l : List Oper} (hm : P.follows .mixedOrders = true) (hB : Region.lexB .any l.toArray = true)
    (h : ∀ w2, Hid (w2 = w.drew) → wpStill P l.toArray w2 (fun a' => Q .normal a' w2) l a) : (Code.region id l.toArray true).wp P Q a w :=
  wp_region_still_lit hm hB (h _ rfl)
theorem below_hid {B : Nat} {a w w2 : World} (h : Below B a w) (e : Hid (w2 = w.drew)) : Below B a w2 := by rw [e.out]; exact h.drew

theorem block_add (a : Addr) (n : Nat) : (a.add n).block = a.block := by unfold Addr.add; split <;> rfl
/-- A slice of ints, as its numbers. -/
def IntsAt (w : World) (A : Option Addr) (zs : List Int) : Prop := zs = [] ∨ ∃ ad, A = some ad ∧ ad.block < w.heap.size ∧ ∀ j, j < zs.length → w.cell? (ad.add j) = some (.int .i64 (zs.getD j 0))
theorem IntsAt.at_ {w : World} {A : Option Addr} {zs : List Int} (h : IntsAt w A zs) {k : Nat} (hk : k < zs.length) : ∃ ad, A = some ad ∧ ad.block < w.heap.size ∧ w.cell? (ad.add k) = some (.int .i64 (zs.getD k 0)) := by
  rcases h with rfl | ⟨ad, rfl, hb, hc⟩
  · cases hk
  · exact ⟨ad, rfl, hb, hc k hk⟩
theorem IntsAt.below {w w' : World} {B : Nat} {A : Option Addr} {zs : List Int} (h : IntsAt w A zs) (hb : Below B w w') (hB : ∀ ad, A = some ad → ad.block < B) : IntsAt w' A zs := by
  rcases h with rfl | ⟨ad, rfl, h1, h2⟩
  · exact .inl rfl
  · exact .inr ⟨ad, rfl, Nat.lt_of_lt_of_le h1 hb.size, fun j hj => (hb.cell (p := ad.add j) (by rw [block_add]; exact hB ad rfl)).trans (h2 j hj)⟩
theorem IntsAt.next {w w' : World} {A : Option Addr} {zs : List Int} (h : IntsAt w A zs) (hb : Below w.heap.size w w') : IntsAt w' A zs := by
  rcases h with rfl | ⟨ad, rfl, h1, h2⟩
  · exact .inl rfl
  · exact .inr ⟨ad, rfl, Nat.lt_of_lt_of_le h1 hb.size, fun j hj => (hb.cell (p := ad.add j) (by rw [block_add]; exact h1)).trans (h2 j hj)⟩

set_option maxRecDepth 100000 in
theorem isOver_any (u n : Int) (w : World) : Calls Try.prog 24 #[.int .i64 u, .int .i64 n] w fun e w' => e = .returned (.bool (decide (u ≤ n))) ∧ w = w' := by
  go_enter Try.func24, Try.ntmps24
  go_wp2_with fail
  go_ret
  exact ⟨rfl, rfl⟩

/-- A credential's value. -/
abbrev crV (j e s f u : Int) (A : Option Addr) (n cap : Nat) (c : Int) : Value := .agg #[.int .i64 j, .int .i64 e, .int .i64 s, .int .i64 f, .int .i64 u, .slice A n cap, .int .i64 c]
abbrev crC (j e s f u : Int) (A : Option Addr) (n cap : Nat) (c : Int) : Array Value := #[.int .i64 j, .int .i64 e, .int .i64 s, .int .i64 f, .int .i64 u, .slice A n cap, .int .i64 c]

set_option maxRecDepth 100000 in
set_option maxHeartbeats 400000 in
theorem placeOf_any (j e s f u : Int) (A : Option Addr) (n cap : Nat) (c : Int) (w : World) :
    Calls Try.prog 23 #[.agg #[.int .i64 j, .int .i64 e, .int .i64 s, .int .i64 f, .int .i64 u, .slice A n cap, .int .i64 c]] w fun x w' => x = .returned (.agg #[.int .i64 j, .int .i64 e, .int .i64 s]) ∧ Below w.heap.size w w' := by
  go_enter Try.func23, Try.ntmps23
  go_wp2_with fail
  exact bodyPost_ret (v := .agg #[.int .i64 j, .int .i64 e, .int .i64 s]) (by simp [results, Try.results23, go_sem]) rfl ⟨rfl, (below_alloc _ _).alloc (by simp) _⟩

set_option maxRecDepth 100000 in
set_option maxHeartbeats 400000 in
theorem outside_any (n l m : Int) (w : World) :
    Calls Try.prog 34 #[.int .i64 n, .int .i64 l, .int .i64 m] w fun x w' => ∃ a b c, x = .returned (.func (.func 37) #[] #[.pointer (some ⟨a, 0, none⟩), .pointer (some ⟨b, 0, none⟩), .pointer (some ⟨c, 0, none⟩)]) ∧ Bk w' a 3 #[.int .i64 n] ∧ Bk w' b 3 #[.int .i64 l] ∧ Bk w' c 3 #[.int .i64 m] ∧ Below w.heap.size w w' := by
  go_enter Try.func34, Try.ntmps34
  go_wp2_with fail
  go_ret
  refine ⟨w.heap.size, w.heap.size + 1, w.heap.size + 1 + 1, rfl, ((Bk.new _ _ _).alloc _).alloc _, ?_, ?_, ((below_alloc _ _).alloc (by simp) _).alloc (by simp; omega) _⟩
  · have := (Bk.new (w.alloc (.cells #[.int .i64 n] 3)) 3 #[.int .i64 l]).alloc (.cells #[.int .i64 m] 3)
    rw [size_alloc] at this
    exact this
  · have := Bk.new ((w.alloc (.cells #[.int .i64 n] 3)).alloc (.cells #[.int .i64 l] 3)) 3 #[.int .i64 m]
    rw [size_alloc, size_alloc] at this
    exact this

/-- Is n not least to most? -/
def outB (n l m : Int) : Bool := decide (n < l) || decide (m < n)
set_option maxRecDepth 100000 in
set_option maxHeartbeats 400000 in
theorem out_any (n l m : Int) (a b c : Nat) (w : World) (ha : Bk w a 3 #[.int .i64 n]) (hb : Bk w b 3 #[.int .i64 l]) (hc : Bk w c 3 #[.int .i64 m]) :
    Calls Try.prog 37 #[.pointer (some ⟨a, 0, none⟩), .pointer (some ⟨b, 0, none⟩), .pointer (some ⟨c, 0, none⟩)] w fun x w' => x = .returned (.bool (outB n l m)) ∧ w = w' := by
  have a0 := ha.cell 0 _ rfl
  have b0 := hb.cell 0 _ rfl
  have c0 := hc.cell 0 _ rfl
  unfold outB
  by_cases h : n < l
  · have t0 : decide (n < l) = true := by simpa using h
    go_enter Try.func37, Try.ntmps37
    go_wp2_with fail
    go_ret
    exact ⟨by rw [t0]; rfl, rfl⟩
  · have t0 : decide (n < l) = false := by simpa using h
    go_enter Try.func37, Try.ntmps37
    go_wp2_with fail
    go_ret
    exact ⟨by first | rfl | (rw [t0]; rfl), rfl⟩

/-- Nodes, rising. -/
def rises : Int → List Int → Bool
  | _, [] => true
  | last, z :: r => if z ≤ last ∨ 16 ≤ z then false else rises z r
theorem rises_go {last z : Int} {r : List Int} (h : ¬(z ≤ last ∨ 16 ≤ z)) : rises last (z :: r) = rises z r := by
  conv => lhs; unfold rises
  rw [if_neg h]
theorem drop_at (zs : List Int) (k : Nat) (h : k < zs.length) : zs.drop k = zs.getD k 0 :: zs.drop (k + 1) := by
  rw [List.drop_eq_getElem_cons h]; simp [List.getD, h]
set_option maxRecDepth 100000 in
set_option maxHeartbeats 400000 in
theorem areNodes_any (A : Option Addr) (n cap : Nat) (zs : List Int) (w : World) (hz : IntsAt w A zs) (hn : zs.length = n) (hm : n ≤ maxLen) :
    Calls Try.prog 36 #[.slice A n cap] w fun x w' => x = .returned (.bool (rises (-1) zs)) ∧ w = w' := by
  unfold maxLen at hm
  have HN := Lib.hid hn
  clear hn
  go_enter Try.func36, Try.ntmps36
  go_wp2_with fail
  go_loop [3, 8] (fun t i => ∃ (k : Nat) (last : Int), k ≤ n ∧ i = .int .i64 k ∧ t = .int .i64 last ∧ Hid (rises (-1) zs = rises last (zs.drop k))) (fun _ i => n - (intOf i).toNat)
  case atStart => exact ⟨0, -1, Nat.zero_le _, rfl, rfl, by rw [List.drop_zero]; exact Lib.hid rfl⟩
  case round =>
    obtain ⟨k, last, hk, rfl, rfl, HR⟩ := hrel
    by_cases hlt : k < n
    · obtain ⟨ad, rfl, hbl, hc⟩ := hz.at_ (k := k) (by rw [HN.out]; exact hlt)
      have HD := Lib.hid (drop_at zs k (by rw [HN.out]; exact hlt))
      generalize hzk : zs.getD k 0 = z at *
      clear hzk
      by_cases h1 : z ≤ last
      · go_wp2_with fail
        go_ret
        have hf : rises (-1) zs = false := by rw [HR.out, HD.out]; unfold rises; rw [if_pos (Or.inl h1)]
        exact ⟨by rw [hf]; rfl, rfl⟩
      · by_cases h2 : 16 ≤ z
        · go_wp2_with fail
          go_ret
          have hf : rises (-1) zs = false := by rw [HR.out, HD.out]; unfold rises; rw [if_pos (Or.inr h2)]
          exact ⟨by rw [hf]; rfl, rfl⟩
        · go_wp2_with fail
          go_round
          case rel => exact ⟨k + 1, z, by omega, by go_num, rfl, Lib.hid (by rw [HR.out, HD.out, rises_go (by omega)])⟩
          case measure => simp [intOf]; omega
    · go_wp2_with fail
      go_ret
      have hf : rises (-1) zs = true := by
        rw [HR.out, List.drop_of_length_le (by rw [HN.out]; omega)]
        rfl
      exact ⟨by rw [hf]; rfl, rfl⟩

set_option maxRecDepth 100000 in
set_option maxHeartbeats 400000 in
theorem nodes_any (j e s f u : Int) (A : Option Addr) (n cap : Nat) (c : Int) (g : Nat) (zs : List Int) (w : World) (hg : Bk w g 31 #[.int .i64 j, .int .i64 e, .int .i64 s, .int .i64 f, .int .i64 u, .slice A n cap, .int .i64 c]) (hz : IntsAt w A zs) (hn : zs.length = n) (hm : n ≤ maxLen) :
    Calls Try.prog 35 #[.pointer (some ⟨g, 0, none⟩)] w fun x w' => x = .returned (.bool (!rises (-1) zs)) ∧ w = w' := by
  have c5 := hg.cell 5 _ rfl
  have K := Lib.hid (areNodes_any A n cap zs w hz hn hm)
  clear hn
  go_enter Try.func35, Try.ntmps35
  go_wp2_with fail
  refine K.out.mono ?_
  rintro x w' ⟨rfl, rfl⟩
  go_wp2_with fail
  go_ret
  exact ⟨rfl, rfl⟩
end Go.Proofs.Ytiokpflciagdoaa
