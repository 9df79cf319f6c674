/- Blocks in memory; steps in memory; dag: isWithin, names, slices.Index, Contains. -/
import Derived.Test.YtodgkjmkjahkiaaRows
import Derived.Test.YtodgkjmkjahkiaaD0
import Derived.WalkKit
import Derived.WalkSpells
import Derived.WalkLawsBesides
import Derived.Laws.Rows
import Derived.Deep.Draws
import Derived.StillTailTactics
import Derived.OwnWalk
import Derived.Laws.CopyOwn
import Derived.BigQuiet
import Derived.Deep.QuietTactic
import Derived.IntWalk
import Derived.Lib.Hide
import Derived.Lib.SmallJoins
import Derived.Deep.RegionHeld3
namespace Go.Proofs.Ytodgkjmkjahkiaa
open Go.RowKit

/-- Block g is just these cells. -/
def Bk (w : World) (g : Nat) (t : TypeId) (cs : Array Value) : Prop := w.heap[g]? = some (.cells cs t (0, 0))
section
variable {w w' : World} {B g b : Nat} {t : TypeId} {cs : Array Value}
theorem Bk.lt (h : Bk w g t cs) : g < w.heap.size := (Array.getElem?_eq_some_iff.1 h).1
theorem Bk.cell (h : Bk w g t cs) (i : Nat) (v : Value) (hv : cs[i]? = some v) : w.cell? ⟨g, i, none⟩ = some v := (cell_of_row w g i cs t (0, 0) h).trans hv
theorem Bk.frozen (h : Bk w g t cs) (i : Nat) : w.frozen? ⟨g, i, none⟩ = false := frozen_of_row w g i cs t h
theorem Bk.below (h : Bk w g t cs) (hb : Below B w w') (hg : g < B) : Bk w' g t cs := (hb.block g hg).trans h
theorem Bk.next (h : Bk w g t cs) (hb : Below w.heap.size w w') : Bk w' g t cs := h.below hb h.lt
theorem Bk.alloc (h : Bk w g t cs) (o : Obj) : Bk (w.alloc o) g t cs := (Below.heap_alloc w o g h.lt).trans h
theorem Bk.new (w : World) (t : TypeId) (cs : Array Value) : Bk (w.alloc (.cells cs t)) w.heap.size t cs := heap_alloc_new w _
theorem Bk.grown (h : Bk w g t cs) (hg : w.grownBy w' (some b)) (hne : g ≠ b) : Bk w' g t cs := (hg.block g h.lt (by simpa using hne)).trans h
theorem Bk.drew (h : Bk w g t cs) : Bk w.drew g t cs := h
theorem Bk.hid {w2 : World} (h : Bk w g t cs) (e : Hid (w2 = w.drew)) : Bk w2 g t cs := by rw [e.out]; exact h.drew
end
theorem bmore {a b c : World} (h : Below a.heap.size a b) (k : Below b.heap.size b c) : Below a.heap.size a c := h.trans (k.mono h.size)
theorem size_alloc (w : World) (o : Obj) : (w.alloc o).heap.size = w.heap.size + 1 := by simp
theorem only_of_below {a w : World} (h : Below a.heap.size a w) : a.grownBy w none := ⟨h.os, h.tape, h.output, h.size, fun i hi _ => h.block i hi⟩
theorem below_alloc (w : World) (o : Obj) : Below w.heap.size w (w.alloc o) := (Below.refl _ _).alloc (Nat.le_refl _) o
/-- A region that draws its order, reads and calls quietly, and ends in a forced tail: its world under a name. -/
theorem region_tail {P : Program} {id : Nat} {Q : Exit → Act → World → Prop} {a : Act} {w : World} {l : List Oper} (n : Nat) (hm : P.follows .mixedOrders = true) (hB : Region.lexTailB .any l.toArray n = true)
    (h : ∀ w2, Hid (w2 = w.drew) → wpStill P l.toArray w2 (fun a' => wpList P l.toArray Q (l.drop n) a' w2) (l.take n) a) : (Code.region id l.toArray true).wp P Q a w :=
  wp_region_still_tail n hm hB (h _ rfl)
theorem region_still {P : Program} {id : Nat} {Q : Exit → Act → World → Prop} {a : Act} {w : World} {l : List Oper} (hm : P.follows .mixedOrders = true) (hB : Region.lexB .any l.toArray = true)
    (h : ∀ w2, Hid (w2 = w.drew) → wpStill P l.toArray w2 (fun a' => Q .normal a' w2) l a) : (Code.region id l.toArray true).wp P Q a w :=
  wp_region_still_lit hm hB (h _ rfl)
theorem below_hid {B : Nat} {a w w2 : World} (h : Below B a w) (e : Hid (w2 = w.drew)) : Below B a w2 := by rw [e.out]; exact h.drew

theorem block_add (a : Addr) (n : Nat) : (a.add n).block = a.block := by unfold Addr.add; split <;> rfl
/-- A slice of ints, as its numbers. -/
def IntsAt (w : World) (A : Option Addr) (zs : List Int) : Prop := zs = [] ∨ ∃ ad, A = some ad ∧ ad.block < w.heap.size ∧ ∀ j, j < zs.length → w.cell? (ad.add j) = some (.int .i64 (zs.getD j 0))
theorem IntsAt.at_ {w : World} {A : Option Addr} {zs : List Int} (h : IntsAt w A zs) {k : Nat} (hk : k < zs.length) : ∃ ad, A = some ad ∧ ad.block < w.heap.size ∧ w.cell? (ad.add k) = some (.int .i64 (zs.getD k 0)) := by
  rcases h with rfl | ⟨ad, rfl, hb, hc⟩
  · cases hk
  · exact ⟨ad, rfl, hb, hc k hk⟩
theorem IntsAt.below {w w' : World} {B : Nat} {A : Option Addr} {zs : List Int} (h : IntsAt w A zs) (hb : Below B w w') (hB : ∀ ad, A = some ad → ad.block < B) : IntsAt w' A zs := by
  rcases h with rfl | ⟨ad, rfl, h1, h2⟩
  · exact .inl rfl
  · exact .inr ⟨ad, rfl, Nat.lt_of_lt_of_le h1 hb.size, fun j hj => (hb.cell (p := ad.add j) (by rw [block_add]; exact hB ad rfl)).trans (h2 j hj)⟩
theorem IntsAt.next {w w' : World} {A : Option Addr} {zs : List Int} (h : IntsAt w A zs) (hb : Below w.heap.size w w') : IntsAt w' A zs := by
  rcases h with rfl | ⟨ad, rfl, h1, h2⟩
  · exact .inl rfl
  · exact .inr ⟨ad, rfl, Nat.lt_of_lt_of_le h1 hb.size, fun j hj => (hb.cell (p := ad.add j) (by rw [block_add]; exact h1)).trans (h2 j hj)⟩

theorem Bk.set {w : World} {g : Nat} {t : TypeId} {cs : Array Value} (h : Bk w g t cs) (i : Nat) (v : Value) : Bk (w.setCell ⟨g, i, none⟩ v) g t (cs.set! i v) := by
  have := heap_setCell_same w g i _ t v h
  simpa [Bk] using this
theorem info3 : (Try.prog.info? 3).map (fun i => (i.zero, i.size, i.bytes)) = some (some (.int .i64 0), 1, 8) := by kernel_rfl
/-- Numbers as values. -/
def iv (l : List Int) : List Value := l.map fun x => Value.int .i64 x
theorem iv_snoc (l : List Int) (x : Int) : iv (l ++ [x]) = iv l ++ [Value.int .i64 x] := by simp [iv]
theorem iv_len (l : List Int) : (iv l).length = l.length := by simp [iv]
theorem ints_iv {w : World} {base n cap : Nat} {xs : List Int} {A : Option Addr} (hn : xs.length = n) (h : w.ownsRow base 3 1 (.slice A n cap) n (iv xs)) : IntsAt w A xs := by
  rcases h.2 with ⟨h0, h1⟩ | ⟨g', cap', cur, h1, h2, h3, h4, h5, h6, h7⟩
  · subst h1; exact .inl (List.length_eq_zero_iff.1 hn)
  · cases h1
    refine .inr ⟨_, rfl, (Array.getElem?_eq_some_iff.1 h3).1, fun j hj => ?_⟩
    have hadd : (⟨g', 0, none⟩ : Addr).add j = ⟨g', j, none⟩ := by unfold Addr.add; split <;> simp_all
    rw [hadd, cell_of_row w g' j cur 3 (0, 0) h3]
    have e1 : cur[j]? = (iv xs)[j]? := by
      rw [← h7, List.getElem?_take, if_pos (by omega)]; simp
    rw [e1]
    simp [iv, List.getD, hj]
theorem own_form {w : World} {base size n : Nat} {e : TypeId} {v : Value} {xs : List Value} (h : w.ownsRow base e size v n xs) : ∃ A cap, v = .slice A n cap := by
  rcases Joins.ownsRow_forms h with ⟨rfl, rfl⟩ | ⟨g, cap, rfl⟩
  · exact ⟨none, 0, rfl⟩
  · exact ⟨_, cap, rfl⟩
theorem own_next {w w' : World} {base size n : Nat} {e : TypeId} {v : Value} {xs : List Value} (h : w.ownsRow base e size v n xs) (hb : Below w.heap.size w w') : w'.ownsRow base e size v n xs := by
  refine ⟨h.1, ?_⟩
  rcases h.2 with h0 | ⟨g, cap, cur, h1, h2, h3, h4⟩
  · exact .inl h0
  · exact .inr ⟨g, cap, cur, h1, h2, (hb.block g (Array.getElem?_eq_some_iff.1 h3).1).trans h3, h4⟩
/-- Behind an append onto a slice of its own: what lies below is as it was. -/
theorem appended_below {W w1 : World} {n₀ : Nat} {e : TypeId} {size : Nat} {v : Value} {k : Nat} {xs : List Value} {tmp : Obj} (hrow : W.ownsRow n₀ e size v k xs) (hn₀ : n₀ ≤ W.heap.size) (hgrow : (W.alloc tmp).grownBy w1 v.ownBlock) : Below n₀ W w1 := by
  refine ((Below.refl n₀ W).alloc hn₀ tmp).grown hgrow (by simp; omega) fun j ej => ?_
  rcases hrow.2 with ⟨rfl, _⟩ | ⟨g, cap, cur, rfl, hb, _, _⟩
  · simp [Value.ownBlock] at ej
  · obtain rfl : g = j := by simpa [Value.ownBlock] using ej
    exact hb

theorem below_drewN' {B : Nat} {a w : World} (h : Below B a w) (n : Nat) : Below B a (w.drewN n) := ⟨h.os, h.tape, h.output, h.size, h.block⟩
/-- An edge, edges, a step, steps in memory. -/
structure EdAt (w : World) (e : Addr) (x : Ed) : Prop where
  c0 : w.cell? e = some (.int .i64 x.s)
  c1 : w.cell? ⟨e.block, e.off + 1, none⟩ = some (.int .i64 x.k)
def EdsAt (w : World) (A : Option Addr) (es : List Ed) : Prop := es = [] ∨ ∃ ad, A = some ad ∧ ad.block < w.heap.size ∧ ∀ k, k < es.length → EdAt w (ad.add (k * 2)) (edA es k)
theorem EdAt.next {w w' : World} {B : Nat} {e : Addr} {x : Ed} (h : EdAt w e x) (hb : Below B w w') (he : e.block < B) : EdAt w' e x :=
  ⟨(hb.cell (p := e) he).trans h.c0, (hb.cell (p := ⟨e.block, e.off + 1, none⟩) he).trans h.c1⟩
theorem EdsAt.next {w w' : World} {A : Option Addr} {es : List Ed} (h : EdsAt w A es) (hb : Below w.heap.size w w') : EdsAt w' A es := by
  rcases h with e | ⟨ad, e, h1, h2⟩
  · exact .inl e
  · exact .inr ⟨ad, e, Nat.lt_of_lt_of_le h1 hb.size, fun k hk => (h2 k hk).next hb (by rw [block_add]; exact h1)⟩
theorem EdsAt.at_ {w : World} {A : Option Addr} {es : List Ed} (h : EdsAt w A es) {k : Nat} (hk : k < es.length) : ∃ ad, A = some ad ∧ ad.block < w.heap.size ∧ EdAt w (ad.add (k * 2)) (edA es k) := by
  rcases h with rfl | ⟨ad, rfl, h1, h2⟩
  · cases hk
  · exact ⟨ad, rfl, h1, h2 k hk⟩
structure StAt (w : World) (e : Addr) (s : St) (B : Option Addr) (c : Nat) : Prop where
  c0 : w.cell? e = some (.int .i64 s.r)
  c1 : w.cell? ⟨e.block, e.off + 1, none⟩ = some (.int .i64 s.p)
  c2 : w.cell? ⟨e.block, e.off + 2, none⟩ = some (.int .i64 s.d)
  c3 : w.cell? ⟨e.block, e.off + 3, none⟩ = some (.int .i64 s.m)
  c4 : w.cell? ⟨e.block, e.off + 4, none⟩ = some (.slice B s.es.length c)
  lm : s.es.length ≤ maxLen
  lc : s.es.length ≤ c
  eds : EdsAt w B s.es
def StsAt (w : World) (A : Option Addr) (l : List St) : Prop := l = [] ∨ ∃ ad, A = some ad ∧ ad.block < w.heap.size ∧ ∀ i, i < l.length → ∃ B c, StAt w (ad.add (i * 5)) (stA l i) B c
theorem StAt.next {w w' : World} {e : Addr} {s : St} {B : Option Addr} {c : Nat} (h : StAt w e s B c) (hb : Below w.heap.size w w') (he : e.block < w.heap.size) : StAt w' e s B c :=
  ⟨(hb.cell (p := e) he).trans h.c0, (hb.cell (p := ⟨e.block, e.off + 1, none⟩) he).trans h.c1, (hb.cell (p := ⟨e.block, e.off + 2, none⟩) he).trans h.c2, (hb.cell (p := ⟨e.block, e.off + 3, none⟩) he).trans h.c3, (hb.cell (p := ⟨e.block, e.off + 4, none⟩) he).trans h.c4, h.lm, h.lc, h.eds.next hb⟩
theorem StsAt.next {w w' : World} {A : Option Addr} {l : List St} (h : StsAt w A l) (hb : Below w.heap.size w w') : StsAt w' A l := by
  rcases h with e | ⟨ad, e, h1, h2⟩
  · exact .inl e
  · refine .inr ⟨ad, e, Nat.lt_of_lt_of_le h1 hb.size, fun i hi => ?_⟩
    obtain ⟨B, c, h3⟩ := h2 i hi
    exact ⟨B, c, h3.next hb (by rw [block_add]; exact h1)⟩
theorem StsAt.at_ {w : World} {A : Option Addr} {l : List St} (h : StsAt w A l) {i : Nat} (hi : i < l.length) : ∃ ad B c, A = some ad ∧ ad.block < w.heap.size ∧ StAt w (ad.add (i * 5)) (stA l i) B c := by
  rcases h with rfl | ⟨ad, rfl, h1, h2⟩
  · cases hi
  · obtain ⟨B, c, h3⟩ := h2 i hi
    exact ⟨ad, B, c, rfl, h1, h3⟩

set_option maxRecDepth 100000 in
theorem isW_any (n a b : Int) (w : World) : Calls Try.prog 66 #[.int .i64 n, .int .i64 a, .int .i64 b] w fun x w' => x = .returned (.bool (isW n a b)) ∧ w' = w := by
  unfold isW
  cases h1 : decide (a ≤ n) <;> cases h2 : decide (n ≤ b)
  all_goals
    go_enter Try.func66, Try.ntmps66
    go_wp2_with fail
    go_ret
    exact ⟨rfl, rfl⟩
set_option maxRecDepth 100000 in
set_option maxHeartbeats 400000 in
theorem names_any (A : Option Addr) (n cap : Nat) (es : List Ed) (s : Int) (w : World) (hA : EdsAt w A es) (hn : n ≤ es.length) (hl : n ≤ maxLen) :
    Calls Try.prog 71 #[.slice A n cap, .int .i64 s] w fun e w' => e = .returned (.bool (namesB es n s)) ∧ Below w.heap.size w w' := by
  have HN := Lib.hid hn
  clear hn
  unfold maxLen at hl
  go_enter Try.func71, Try.ntmps71
  go_wp2_with fail
  go_loopw [9] (fun i wr => ∃ k : Nat, k ≤ n ∧ i = .int .i64 k ∧ Below w.heap.size w wr ∧ allR (fun k => !((edA es k).s == s)) k = true)
    (fun i _ => n - (intOf i).toNat)
  case atStart => exact ⟨0, Nat.zero_le _, rfl, Below.refl _ _, rfl⟩
  case round =>
    obtain ⟨k, hk, rfl, hb, hall⟩ := hrel
    by_cases hlt : k < n
    · obtain ⟨ad, rfl, h1, h2⟩ := (hA.next hb).at_ (k := k) (by have := HN.out; omega)
      obtain ⟨c0, c1⟩ := h2
      have i0 : (0 : Int) ≤ (k : Int) := by omega
      have i1 : (k : Int) < (n : Int) := by omega
      cases hc : ((edA es k).s == s)
      · have HA2 := Lib.hid (show allR (fun k => !((edA es k).s == s)) (k + 1) = true from by simp only [allR, hall, hc]; rfl)
        generalize edA es k = x at *
        go_wp2_with fail
        go_roundw
        case rel => exact ⟨k + 1, by omega, by go_num, hb.trans ((below_alloc _ _).mono hb.size), HA2.out⟩
        case measure => simp [intOf]; omega
      · have HA2 := Lib.hid (show namesB es n s = true from by
          unfold namesB
          rw [allR_no hlt (by simp only [hc]; rfl)]
          rfl)
        generalize edA es k = x at *
        go_wp2_with fail
        go_ret
        exact ⟨by rw [HA2.out]; rfl, bmore hb (below_alloc _ _)⟩
    · obtain rfl : k = n := by omega
      go_wp2_with fail
      go_ret
      exact ⟨by unfold namesB; rw [hall]; rfl, hb⟩
set_option maxRecDepth 100000 in
set_option maxHeartbeats 400000 in
theorem index_any (A : Option Addr) (n cap : Nat) (zs : List Int) (x : Int) (w : World) (hA : IntsAt w A zs) (hn : zs.length = n) (hl : n ≤ maxLen) :
    Calls Try.prog 69 #[.slice A n cap, .int .i64 x] w fun e w' => (∃ k : Int, e = .returned (.int .i64 k) ∧ decide (0 ≤ k) = hasB zs x) ∧ w' = w := by
  have HN := Lib.hid hn
  clear hn
  unfold maxLen at hl
  go_enter Try.func69, Try.ntmps69
  go_wp2_with fail
  go_loopw [8] (fun i wr => ∃ k : Nat, k ≤ n ∧ i = .int .i64 k ∧ wr = w ∧ ∀ j, j < k → zs.getD j 0 ≠ x)
    (fun i _ => n - (intOf i).toNat)
  case atStart => exact ⟨0, Nat.zero_le _, rfl, rfl, fun j hj => by omega⟩
  case round =>
    obtain ⟨k, hk, rfl, rfl, hall⟩ := hrel
    by_cases hlt : k < n
    · obtain ⟨ad, rfl, h1, h2⟩ := hA.at_ (k := k) (by rw [HN.out]; exact hlt)
      have i0 : (0 : Int) ≤ (k : Int) := by omega
      have i1 : (k : Int) < (n : Int) := by omega
      have hm : zs.getD k 0 ∈ zs := by
        rw [List.getD_eq_getElem?_getD, List.getElem?_eq_getElem (by rw [HN.out]; exact hlt)]
        exact List.getElem_mem _
      have HM := Lib.hid hm
      clear hm
      have HE := Lib.hid (rfl : zs.getD k 0 = zs.getD k 0)
      by_cases hc : x = zs.getD k 0
      · have HX := Lib.hid (show hasB zs x = true from hasB_iff.2 (by rw [hc]; exact HM.out))
        have HY := Lib.hid hc
        have hd : (x == zs.getD k 0) = true := by rw [hc]; exact beq_self_eq_true _
        clear hc
        generalize zs.getD k 0 = z at *
        go_wp2_with fail
        go_ret
        exact ⟨⟨_, rfl, by rw [HX.out]; simp⟩, rfl⟩
      · have hd : (x == zs.getD k 0) = false := by simpa using hc
        have HL := Lib.hid (show ∀ j, j < k + 1 → zs.getD j 0 ≠ x from by
          intro j hj
          rcases Nat.lt_or_ge j k with h | h
          · exact hall j h
          · obtain rfl : j = k := by omega
            exact fun e => hc e.symm)
        clear hc
        generalize zs.getD k 0 = z at *
        go_wp2_with fail
        go_roundw
        case rel => exact ⟨k + 1, by omega, by go_num, by first | rfl | trivial, HL.out⟩
        case measure => simp [intOf]; omega
    · obtain rfl : k = n := by omega
      have HX := Lib.hid (show hasB zs x = false from by
        rw [← Bool.not_eq_true, hasB_iff]
        intro hm
        obtain ⟨j, hj, e⟩ := List.getElem_of_mem hm
        refine hall j (by rw [← HN.out]; exact hj) ?_
        rw [List.getD_eq_getElem?_getD, List.getElem?_eq_getElem hj]
        exact e)
      go_wp2_with fail
      go_ret
      exact ⟨⟨_, rfl, by rw [HX.out]; rfl⟩, rfl⟩
theorem has_any (A : Option Addr) (n cap : Nat) (zs : List Int) (x : Int) (w : World) (hA : IntsAt w A zs) (hn : zs.length = n) (hl : n ≤ maxLen) :
    Calls Try.prog 54 #[.slice A n cap, .int .i64 x] w fun e w' => e = .returned (.bool (hasB zs x)) ∧ w' = w := by
  have K := Lib.hid (index_any A n cap zs x w hA hn hl)
  clear hA hn
  go_enter Try.func54, Try.ntmps54
  go_wp2_with fail
  refine (K.out).mono ?_
  rintro y w1 ⟨⟨k, rfl, hk⟩, rfl⟩
  go_wp2_with fail
  go_ret
  exact ⟨by rw [← hk]; rfl, rfl⟩
end Go.Proofs.Ytodgkjmkjahkiaa
