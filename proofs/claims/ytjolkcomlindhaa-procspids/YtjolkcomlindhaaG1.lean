/- procs: isNum, slices.Clone, apart, mayBe. -/
import Derived.Test.YtjolkcomlindhaaB6
import Derived.Test.YtjolkcomlindhaaMW4
namespace Go.Proofs.Ytjolkcomlindhaa
open Go.RowKit Go.Shelf Go.Maps Go.Sort

def numB (n : Int) : Bool := decide (0 ≤ n) && decide (n ≤ 1099511627776)
set_option maxRecDepth 100000 in
theorem isNum_any (n : Int) (w : World) : Calls Try.prog 69 #[.int .i64 n] w fun x w' => x = .returned (.bool (numB n)) ∧ w = w' := by
  unfold numB
  cases h1 : decide (0 ≤ n) <;> cases h2 : decide (n ≤ 1099511627776)
  all_goals
    go_enter Try.func69, Try.ntmps69
    go_wp2_with fail
    go_ret
    exact ⟨rfl, rfl⟩
/-- Numbers of a slice, in a block of ints. -/
structure Cs (w : World) (A : Option Addr) (zs : List Int) : Prop where
  ints : IntsAt w A zs
  cells : ∀ ad, A = some ad → ∃ cur, w.heap[ad.block]? = some (.cells cur 3 (0, 0))
theorem Cs.next {w w' : World} {A : Option Addr} {zs : List Int} (h : Cs w A zs) (hb : Below w.heap.size w w') : Cs w' A zs :=
  ⟨h.ints.next hb, fun ad e => by obtain ⟨cur, hc⟩ := h.cells ad e; exact ⟨cur, (hb.block _ (Array.getElem?_eq_some_iff.1 hc).1).trans hc⟩⟩
theorem eqs (w : World) (a : Option Addr) (n c n' c' : Nat) : (binOp .eql 45 (.slice a n c) (.slice none n' c')).run Try.prog w = .ok (.bool a.isNone) w := Lib.run_eql_slice_nil w _ _ a n c n' c' Try.underlying45
attribute [local go_sem] eqs
theorem cs_own {w : World} {base n cap : Nat} {zs : List Int} {A : Option Addr} (hn : zs.length = n) (h : w.ownsRow base 3 1 (.slice A n cap) n (iv zs)) : Cs w A zs := by
  refine ⟨ints_iv hn h, fun ad e => ?_⟩
  rcases h.2 with ⟨h0, _⟩ | ⟨g, c, cur, h1, _, h3, _⟩
  · cases h0; cases e
  · cases h1; cases e; exact ⟨cur, h3⟩
set_option maxRecDepth 100000 in
set_option maxHeartbeats 1000000 in
theorem clone_any (A : Option Addr) (n cap : Nat) (zs : List Int) (w : World) (hz : IntsAt w A zs) (hn : zs.length = n) (hl : n ≤ 1000) :
    Calls Try.prog 67 #[.slice A n cap] w fun e w' => ∃ A' cap', e = .returned (.slice A' n cap') ∧ Cs w' A' zs ∧ Below w.heap.size w w' := by
  obtain ⟨i0, hi, hz0, hz1, hz2⟩ := info_parts info3
  cases A with
  | none =>
    have e : zs = [] := by
      rcases hz with e | ⟨ad, e, _⟩
      · exact e
      · cases e
    subst e
    obtain rfl : n = 0 := by simpa using hn.symm
    go_enter Try.func67, Try.ntmps67
    go_wp2_with fail
    go_ret
    exact ⟨none, 0, rfl, ⟨.inl rfl, fun ad e => by cases e⟩, Below.refl _ _⟩
  | some a =>
    have HZ := Lib.hid hz
    have HN := Lib.hid hn
    clear hz hn
    go_enter Try.func67, Try.ntmps67
    go_wp2_with (at_builtin; refine wpList_append_own _ rfl _ _ 45 rfl w.heap.size 3 i0 (.int .i64 0) 1 8 Try.underlying45 hi hz0 hz1 hz2 rfl (by decide) _ _ _ rfl (World.ownsRow_made w #[] 0 (Nat.le_refl _) (Nat.zero_le _) rfl) a n cap (iv zs) rfl ?qc1 ?qc2 ?qc3 ?qc4 ?qc5 ?qc6 ?_)
    case qc1 => rw [iv_len, HN.out]; simp
    case qc2 =>
      intro j u hj
      have hjn : j < zs.length := by
        have := (List.getElem?_eq_some_iff.1 hj).1
        rwa [iv_len] at this
      rcases HZ.out with e | ⟨ad, e, h1, h2⟩
      · rw [e] at hjn; cases hjn
      · cases e
        refine ((below_alloc w _).cell (p := a.add j) (by rw [block_add]; exact h1)).trans ?_
        rw [h2 j hjn, ← hj]
        simp [iv, List.getD, hjn]
    case qc3 => intro u hu; obtain ⟨x, _, rfl⟩ := List.mem_map.1 hu; rfl
    case qc4 => unfold maxLen; omega
    case qc5 => omega
    case qc6 => simp
    intro v' w1 hown hgrow hnil
    obtain ⟨A', cap', rfl⟩ := own_form hown
    go_wp2_with fail
    go_ret
    refine ⟨A', cap', by simp, cs_own HN.out (by simpa using hown), ?_⟩
    exact (below_alloc w _).grown hgrow (by simp) (by intro k hk; simp [Value.ownBlock] at hk; omega)
theorem Bk.put {w : World} {g g' : Nat} {t : TypeId} {cs : Array Value} (h : Bk w g t cs) {i : Nat} {v : Value} (hne : g ≠ g') : Bk (w.setCell ⟨g', i, none⟩ v) g t cs := (heap_setCell_other w ⟨g', i, none⟩ g v hne).trans h
/-- Eight cells, stored one by one. -/
abbrev put8 (w : World) (g : Nat) (a b c d e f h i : Value) : World := (((((((w.setCell ⟨g, 0, none⟩ a).setCell ⟨g, 1, none⟩ b).setCell ⟨g, 2, none⟩ c).setCell ⟨g, 3, none⟩ d).setCell ⟨g, 4, none⟩ e).setCell ⟨g, 5, none⟩ f).setCell ⟨g, 6, none⟩ h).setCell ⟨g, 7, none⟩ i
theorem Bk.put8 {w : World} {g : Nat} {t : TypeId} {x0 x1 x2 x3 x4 x5 x6 x7 a b c d e f h i : Value} (k : Bk w g t #[x0, x1, x2, x3, x4, x5, x6, x7]) : Bk (put8 w g a b c d e f h i) g t #[a, b, c, d, e, f, h, i] := by
  have := (((((((k.set 0 a).set 1 b).set 2 c).set 3 d).set 4 e).set 5 f).set 6 h).set 7 i
  simpa using this
theorem below_put8 {B : Nat} {w V : World} {g : Nat} {a b c d e f h i : Value} (k : Below B w V) (hg : B ≤ g) : Below B w (Ytjolkcomlindhaa.put8 V g a b c d e f h i) :=
  (((((((k.setCell hg a).setCell hg b).setCell hg c).setCell hg d).setCell hg e).setCell hg f).setCell hg h).setCell hg i
theorem Cs.set {w : World} {A : Option Addr} {zs : List Int} (h : Cs w A zs) {g i : Nat} {t : TypeId} {cs : Array Value} {v : Value} (k : Bk w g t cs) (ht : t ≠ 3) : Cs (w.setCell ⟨g, i, none⟩ v) A zs := by
  have hne : ∀ ad, A = some ad → ad.block ≠ g := fun ad e => by
    obtain ⟨cur, hc⟩ := h.cells ad e
    rintro rfl
    unfold Bk at k
    rw [hc] at k
    injection k with k
    injection k with _ k
    exact ht k.symm
  refine ⟨?_, fun ad e => ?_⟩
  · rcases h.ints with e | ⟨ad, e, h1, h2⟩
    · exact .inl e
    · refine .inr ⟨ad, e, by simpa using h1, fun j hj => ?_⟩
      rw [← h2 j hj]
      simp only [World.cell?, block_add, heap_setCell_other w ⟨g, i, none⟩ ad.block v (hne ad e)]
  · obtain ⟨cur, hc⟩ := h.cells ad e
    exact ⟨cur, (heap_setCell_other w ⟨g, i, none⟩ ad.block v (hne ad e)).trans hc⟩
theorem Cs.put8 {w : World} {A : Option Addr} {zs : List Int} (q : Cs w A zs) {g : Nat} {t : TypeId} {x0 x1 x2 x3 x4 x5 x6 x7 a b c d e f h i : Value} (k : Bk w g t #[x0, x1, x2, x3, x4, x5, x6, x7]) (ht : t ≠ 3) : Cs (Ytjolkcomlindhaa.put8 w g a b c d e f h i) A zs :=
  (((((((q.set k ht).set (k.set 0 a) ht).set ((k.set 0 a).set 1 b) ht).set (((k.set 0 a).set 1 b).set 2 c) ht).set ((((k.set 0 a).set 1 b).set 2 c).set 3 d) ht).set (((((k.set 0 a).set 1 b).set 2 c).set 3 d).set 4 e) ht).set ((((((k.set 0 a).set 1 b).set 2 c).set 3 d).set 4 e).set 5 f) ht).set (((((((k.set 0 a).set 1 b).set 2 c).set 3 d).set 4 e).set 5 f).set 6 h) ht
/-- A task. -/
abbrev tkC (p j e s r : Int) (sl : Value) (st c : Int) : Array Value := #[.int .i64 p, .int .i64 j, .int .i64 e, .int .i64 s, .int .i64 r, sl, .int .i64 st, .int .i64 c]
abbrev tkV (p j e s r : Int) (sl : Value) (st c : Int) : Value := .agg (tkC p j e s r sl st c)
set_option maxRecDepth 100000 in
set_option maxHeartbeats 1000000 in
theorem apart_any (p j e s r st c : Int) (A : Option Addr) (n cap : Nat) (zs : List Int) (w : World) (hz : IntsAt w A zs) (hn : zs.length = n) (hl : n ≤ 1000) :
    Calls Try.prog 56 #[tkV p j e s r (.slice A n cap) st c] w fun x w' => ∃ A' cap', x = .returned (tkV p j e s r (.slice A' n cap') st c) ∧ Cs w' A' zs ∧ Below w.heap.size w w' := by
  have K := Lib.hid (fun V (hb : Below w.heap.size w V) => clone_any A n cap zs V (hz.next hb) hn hl)
  have k0 := (Bk.new w 61 (tkC p j e s r (.slice A n cap) st c)).alloc (.cells (tkC 0 0 0 0 0 (.slice none 0 0) 0 0) 61)
  have kR := Bk.new (w.alloc (.cells (tkC p j e s r (.slice A n cap) st c) 61)) 61 (tkC 0 0 0 0 0 (.slice none 0 0) 0 0)
  rw [size_alloc] at kR
  have low := (below_alloc w (.cells (tkC p j e s r (.slice A n cap) st c) 61)).alloc (by simp) (.cells (tkC 0 0 0 0 0 (.slice none 0 0) 0 0) 61)
  clear hz hn hl
  go_enter Try.func56, Try.ntmps56
  go_wp2_with fail
  refine (K.out _ low).mono ?_
  rintro x w1 ⟨A', cap', rfl, hcs, hb⟩
  replace k0 := k0.next hb
  replace kR := kR.next hb
  replace low := bmore low hb
  clear hb K
  have c5 := k0.cell 5 _ rfl
  have f5 := k0.frozen 5
  have k5 : Bk (w1.setCell ⟨w.heap.size, 5, none⟩ (.slice A' n cap')) w.heap.size 61 (tkC p j e s r (.slice A' n cap') st c) := k0.set 5 _
  have kR5 : Bk (w1.setCell ⟨w.heap.size, 5, none⟩ (.slice A' n cap')) (w.heap.size + 1) 61 (tkC 0 0 0 0 0 (.slice none 0 0) 0 0) := kR.put (by omega)
  have cs5 := hcs.set (i := 5) (v := .slice A' n cap') k0 (by decide)
  have low5 := low.setCell (p := ⟨w.heap.size, 5, none⟩) (show w.heap.size ≤ w.heap.size from Nat.le_refl _) (.slice A' n cap')
  have d0 := k5.cell 0 _ rfl
  have d1 := k5.cell 1 _ rfl
  have d2 := k5.cell 2 _ rfl
  have d3 := k5.cell 3 _ rfl
  have d4 := k5.cell 4 _ rfl
  have d5 := k5.cell 5 _ rfl
  have d6 := k5.cell 6 _ rfl
  have d7 := k5.cell 7 _ rfl
  have q0 := kR5.cell 0 _ rfl
  have q1 := kR5.cell 1 _ rfl
  have q2 := kR5.cell 2 _ rfl
  have q3 := kR5.cell 3 _ rfl
  have q4 := kR5.cell 4 _ rfl
  have q5 := kR5.cell 5 _ rfl
  have q6 := kR5.cell 6 _ rfl
  have q7 := kR5.cell 7 _ rfl
  have fkR50 := kR5.frozen 0
  have fkR51 := kR5.frozen 1
  have fkR52 := kR5.frozen 2
  have fkR53 := kR5.frozen 3
  have fkR54 := kR5.frozen 4
  have fkR55 := kR5.frozen 5
  have fkR56 := kR5.frozen 6
  have fkR57 := kR5.frozen 7
  have kz := kR5.put8 (a := .int .i64 p) (b := .int .i64 j) (c := .int .i64 e) (d := .int .i64 s) (e := .int .i64 r) (f := .slice A' n cap') (h := .int .i64 st) (i := .int .i64 c)
  have cz := cs5.put8 (a := .int .i64 p) (b := .int .i64 j) (c := .int .i64 e) (d := .int .i64 s) (e := .int .i64 r) (f := .slice A' n cap') (h := .int .i64 st) (i := .int .i64 c) kR5 (by decide)
  have lz := below_put8 (a := .int .i64 p) (b := .int .i64 j) (c := .int .i64 e) (d := .int .i64 s) (e := .int .i64 r) (f := .slice A' n cap') (h := .int .i64 st) (i := .int .i64 c) low5 (show w.heap.size ≤ w.heap.size + 1 by omega)
  clear k0 kR low hcs k5 kR5 cs5 low5
  go_wp2_with fail
  have z0 := kz.cell 0 _ rfl
  have z1 := kz.cell 1 _ rfl
  have z2 := kz.cell 2 _ rfl
  have z3 := kz.cell 3 _ rfl
  have z4 := kz.cell 4 _ rfl
  have z5 := kz.cell 5 _ rfl
  have z6 := kz.cell 6 _ rfl
  have z7 := kz.cell 7 _ rfl
  exact bodyPost_ret (v := tkV p j e s r (.slice A' n cap') st c) (by simp [results, Try.results56, go_sem, z0, z1, z2, z3, z4, z5, z6, z7]) rfl ⟨A', cap', rfl, cz, lz⟩
end Go.Proofs.Ytjolkcomlindhaa
