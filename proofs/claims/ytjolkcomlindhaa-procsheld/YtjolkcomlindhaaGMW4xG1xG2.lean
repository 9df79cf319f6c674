/- Of. -/
import Derived.Test.YtjolkcomlindhaaGMW1xMW2xMW3
import Derived.Test.YtjolkcomlindhaaGB6xMPurexMRow
namespace Go.Proofs.Ytjolkcomlindhaa.Mo
open Go.RowKit

/-- A slice of ints, at A, whose numbers are xs; it lies below block B. -/
def NatsAt (w : World) (B : Nat) (A : Option Addr) (xs : List Nat) : Prop := xs = [] ∨ ∃ ad, A = some ad ∧ ad.block < B ∧ ∀ j, j < xs.length → w.cell? (ad.add j) = some (.int .i64 (Mk.nth xs j : Nat))
theorem block_add (a : Addr) (n : Nat) : (a.add n).block = a.block := by unfold Addr.add; split <;> rfl
theorem NatsAt.below {w w' : World} {B : Nat} {A : Option Addr} {xs : List Nat} (h : NatsAt w B A xs) (hb : Below B w w') : NatsAt w' B A xs := by
  rcases h with h | ⟨ad, h1, h2, h3⟩
  · exact .inl h
  · exact .inr ⟨ad, h1, h2, fun j hj => (hb.cell (p := ad.add j) (by rw [block_add]; exact h2)).trans (h3 j hj)⟩
theorem NatsAt.more {w : World} {B B' : Nat} {A : Option Addr} {xs : List Nat} (h : NatsAt w B A xs) (hB : B ≤ B') : NatsAt w B' A xs := by
  rcases h with h | ⟨ad, h1, h2, h3⟩
  · exact .inl h
  · exact .inr ⟨ad, h1, by omega, h3⟩
theorem NatsAt.at_ {w : World} {B : Nat} {A : Option Addr} {xs : List Nat} (h : NatsAt w B A xs) {k : Nat} (hk : k < xs.length) : ∃ ad, A = some ad ∧ ad.block < B ∧ w.cell? (ad.add k) = some (.int .i64 (Mk.nth xs k : Nat)) := by
  rcases h with h | ⟨ad, h1, h2, h3⟩
  · rw [h] at hk; cases hk
  · exact ⟨ad, h1, h2, h3 k hk⟩

theorem take_snoc (xs : List Nat) (k : Nat) (h : k < xs.length) : xs.take (k + 1) = xs.take k ++ [Mk.nth xs k] := by
  rw [List.take_succ_eq_append_getElem h]; simp [Mk.nth, h]
theorem nth_mem (xs : List Nat) (k : Nat) (h : k < xs.length) : Mk.nth xs k ∈ xs := by simp [Mk.nth, h]
theorem nodup_take (xs : List Nat) (k : Nat) (h : k < xs.length) (hn : xs.Nodup) : Mk.nth xs k ∉ xs.take k := by
  have : (xs.take (k + 1)).Nodup := hn.sublist (List.take_sublist _ _)
  rw [take_snoc xs k h, List.nodup_append] at this
  intro hm
  exact this.2.2 _ hm _ (by simp) rfl

set_option maxRecDepth 100000 in
set_option maxHeartbeats 400000 in
theorem of_ok (A : Option Addr) (cap : Nat) (xs : List Nat) (w : World) (hA : NatsAt w w.heap.size A xs) (hx : ∀ x ∈ xs, x < 256) (hn : xs.Nodup) (hl : xs.length ≤ maxLen) :
    Calls Try.prog 68 #[.slice A xs.length cap] w fun e w' => e = .returned (.tuple #[.agg (vs .u64 (Mk.ofL xs)), .int .i64 0]) ∧ Below w.heap.size w w' := by
  have HX := Lib.hid hx
  have HN := Lib.hid hn
  clear hx hn
  unfold maxLen at hl
  go_enter Try.func68, Try.ntmps68
  go_wp2_with fail
  go_loopw [9] (fun i wr => ∃ k : Nat, k ≤ xs.length ∧ i = .int .i64 k ∧ Row .u64 104 wr w.heap.size Mk.zero ∧ Row .u64 104 wr (w.heap.size + 1) (Mk.ofL (xs.take k)) ∧ Below w.heap.size w wr)
    (fun i _ => xs.length - (intOf i).toNat)
  case atStart =>
    refine ⟨0, by omega, rfl, (Row.new w .u64 104 Mk.zero _ rfl).alloc _, ?_, ((Below.refl _ _).alloc (Nat.le_refl _) _).alloc (by simp) _⟩
    have := Row.new (w.alloc (.cells (vs .u64 Mk.zero) 104)) .u64 104 Mk.zero _ rfl
    rw [size_alloc] at this
    exact this
  case round =>
    obtain ⟨k, hk, rfl, r0, r1, hb⟩ := hrel
    have hw := Lib.hid (Mk.ofL_W4 (xs := xs.take k) (fun x hx => HX.out x (List.mem_of_mem_take hx)))
    have hz := Lib.hid (info33' hw.out)
    by_cases hlt : k < xs.length
    · obtain ⟨ad, rfl, hblk, hcell⟩ := (hA.below hb).at_ hlt
      have hc := HX.out _ (nth_mem xs k hlt)
      have hw2 := Lib.hid (hw.out.wth hc)
      have HS : Hid (Mk.ofL (xs.take (k + 1)) = Mk.wth (Mk.ofL (xs.take k)) (Mk.nth xs k)) := by
        show _ = _; rw [take_snoc xs k hlt, Mk.ofL_snoc]
      have HF : Hid (Mk.hasB (Mk.ofL (xs.take k)) (Mk.nth xs k) = false) := by
        show _ = _
        rw [Mk.has_ofL (fun x hx => HX.out x (List.mem_of_mem_take hx))]
        simpa using nodup_take xs k hlt HN.out
      have hz2 := Lib.hid (info33' hw2.out)
      have hlen := Lib.hid (len_len hw.out hw2.out)
      generalize Mk.ofL (xs.take k) = m at *
      generalize Mk.nth xs k = c at *
      go_wp2_with (first | (refine load_w rfl 104 _ rfl (w.heap.size + 1) .u64 m rfl 104 _ r1 Try.underlying104 rfl hz.out ?_) | ((go_at_call 76; refine (isCore_yes _ _ (by omega) (by omega)).mono ?_); rintro e w' ⟨rfl, rfl⟩) | ((go_at_call 77; refine (has_in m c _ hw.out hc).mono ?_); rintro e w2 ⟨rfl, hb2⟩; rw [HF.out]; replace r0 := r0.below hb2 r0.lt; replace r1 := r1.below hb2 r1.lt; replace hb := bmore hb hb2; clear hb2) | ((go_at_call 78; refine (with_any m c _ hw.out hc).mono ?_); rintro e w2 ⟨rfl, hb2⟩; have r02 := r0.below hb2 r0.lt; have r12 := r1.below hb2 r1.lt; have hb22 := bmore hb hb2; clear hb2) | (refine store_law rfl 104 _ _ rfl (w.heap.size + 1) .u64 m (Mk.wth m c) rfl rfl 104 r12 hlen.out hz2.out ?_; intro w7 hw7))
      go_roundw
      case rel =>
        refine ⟨k + 1, by omega, by go_num, r02.hidOther hw7 (by omega), ?_, below_hidSet hb22 hw7 (by omega)⟩
        rw [HS.out]; exact r12.hidSet hw7
      case measure => simp [intOf]; omega
    · obtain rfl : k = xs.length := by omega
      rw [List.take_length] at r1 hw hz
      have hlen := Lib.hid (zero_len hw.out)
      go_wp2_with (first | (refine load_law rfl 104 _ rfl (w.heap.size + 1) .u64 (Mk.ofL xs) rfl 104 _ r1 Try.underlying104 rfl hz.out ?_) | (refine store_law rfl 104 _ _ rfl w.heap.size .u64 Mk.zero (Mk.ofL xs) rfl rfl 104 r0 hlen.out hz.out ?_; intro w7 hw7))
      exact bodyPost_ret (results_row_tmp rfl _ _ w.heap.size .u64 104 _ _ rfl (r0.hidSet hw7) Try.underlying104 rfl hz.out) rfl ⟨rfl, below_hidSet hb hw7 (by omega)⟩
end Go.Proofs.Ytjolkcomlindhaa.Mo
/- procs: isNum, slices.Clone, apart, mayBe. -/
namespace Go.Proofs.Ytjolkcomlindhaa
open Go.RowKit Go.Shelf Go.Maps Go.Sort

def numB (n : Int) : Bool := decide (0 ≤ n) && decide (n ≤ 1099511627776)
set_option maxRecDepth 100000 in
theorem isNum_any (n : Int) (w : World) : Calls Try.prog 69 #[.int .i64 n] w fun x w' => x = .returned (.bool (numB n)) ∧ w = w' := by
  unfold numB
  cases h1 : decide (0 ≤ n) <;> cases h2 : decide (n ≤ 1099511627776)
  all_goals
    go_enter Try.func69, Try.ntmps69
    go_wp2_with fail
    go_ret
    exact ⟨rfl, rfl⟩
/-- Numbers of a slice, in a block of ints. -/
structure Cs (w : World) (A : Option Addr) (zs : List Int) : Prop where
  ints : IntsAt w A zs
  cells : ∀ ad, A = some ad → ∃ cur, w.heap[ad.block]? = some (.cells cur 3 (0, 0))
theorem Cs.next {w w' : World} {A : Option Addr} {zs : List Int} (h : Cs w A zs) (hb : Below w.heap.size w w') : Cs w' A zs :=
  ⟨h.ints.next hb, fun ad e => by obtain ⟨cur, hc⟩ := h.cells ad e; exact ⟨cur, (hb.block _ (Array.getElem?_eq_some_iff.1 hc).1).trans hc⟩⟩
theorem eqs (w : World) (a : Option Addr) (n c n' c' : Nat) : (binOp .eql 45 (.slice a n c) (.slice none n' c')).run Try.prog w = .ok (.bool a.isNone) w := Lib.run_eql_slice_nil w _ _ a n c n' c' Try.underlying45
attribute [local go_sem] eqs
theorem cs_own {w : World} {base n cap : Nat} {zs : List Int} {A : Option Addr} (hn : zs.length = n) (h : w.ownsRow base 3 1 (.slice A n cap) n (iv zs)) : Cs w A zs := by
  refine ⟨ints_iv hn h, fun ad e => ?_⟩
  rcases h.2 with ⟨h0, _⟩ | ⟨g, c, cur, h1, _, h3, _⟩
  · cases h0; cases e
  · cases h1; cases e; exact ⟨cur, h3⟩
/-- A row's block is of its own. -/
theorem own_new {w : World} {base n cap m : Nat} {e : TypeId} {size : Nat} {A : Option Addr} {xs : List Value} (h : w.ownsRow base e size (.slice A n cap) m xs) : ∀ ad, A = some ad → base ≤ ad.block := by
  rintro ad rfl
  rcases h.2 with ⟨e, _⟩ | ⟨_, _, _, e, hb, _⟩
  · cases e
  · cases e
    exact hb
set_option maxRecDepth 100000 in
set_option maxHeartbeats 1000000 in
theorem clone_new (A : Option Addr) (n cap : Nat) (zs : List Int) (w : World) (hz : IntsAt w A zs) (hn : zs.length = n) (hl : n ≤ 1000) :
    Calls Try.prog 67 #[.slice A n cap] w fun e w' => ∃ A' cap', e = .returned (.slice A' n cap') ∧ Cs w' A' zs ∧ (∀ ad, A' = some ad → w.heap.size ≤ ad.block) ∧ Below w.heap.size w w' := by
  obtain ⟨i0, hi, hz0, hz1, hz2⟩ := info_parts info3
  cases A with
  | none =>
    have e : zs = [] := by
      rcases hz with e | ⟨ad, e, _⟩
      · exact e
      · cases e
    subst e
    obtain rfl : n = 0 := by simpa using hn.symm
    go_enter Try.func67, Try.ntmps67
    go_wp2_with fail
    go_ret
    exact ⟨none, 0, rfl, ⟨.inl rfl, fun ad e => by cases e⟩, (fun ad e => by cases e), Below.refl _ _⟩
  | some a =>
    have HZ := Lib.hid hz
    have HN := Lib.hid hn
    clear hz hn
    go_enter Try.func67, Try.ntmps67
    go_wp2_with (at_builtin; refine wpList_append_own _ rfl _ _ 45 rfl w.heap.size 3 i0 (.int .i64 0) 1 8 Try.underlying45 hi hz0 hz1 hz2 rfl (by decide) _ _ _ rfl (World.ownsRow_made w #[] 0 (Nat.le_refl _) (Nat.zero_le _) rfl) a n cap (iv zs) rfl ?qc1 ?qc2 ?qc3 ?qc4 ?qc5 ?qc6 ?_)
    case qc1 => rw [iv_len, HN.out]; simp
    case qc2 =>
      intro j u hj
      have hjn : j < zs.length := by
        have := (List.getElem?_eq_some_iff.1 hj).1
        rwa [iv_len] at this
      rcases HZ.out with e | ⟨ad, e, h1, h2⟩
      · rw [e] at hjn; cases hjn
      · cases e
        refine ((below_alloc w _).cell (p := a.add j) (by rw [block_add]; exact h1)).trans ?_
        rw [h2 j hjn, ← hj]
        simp [iv, List.getD, hjn]
    case qc3 => intro u hu; obtain ⟨x, _, rfl⟩ := List.mem_map.1 hu; rfl
    case qc4 => unfold maxLen; omega
    case qc5 => omega
    case qc6 => simp
    intro v' w1 hown hgrow hnil
    obtain ⟨A', cap', rfl⟩ := own_form hown
    go_wp2_with fail
    go_ret
    refine ⟨A', cap', by simp, cs_own HN.out (by simpa using hown), own_new hown, ?_⟩
    exact (below_alloc w _).grown hgrow (by simp) (by intro k hk; simp [Value.ownBlock] at hk; omega)
theorem clone_any (A : Option Addr) (n cap : Nat) (zs : List Int) (w : World) (hz : IntsAt w A zs) (hn : zs.length = n) (hl : n ≤ 1000) :
    Calls Try.prog 67 #[.slice A n cap] w fun e w' => ∃ A' cap', e = .returned (.slice A' n cap') ∧ Cs w' A' zs ∧ Below w.heap.size w w' :=
  (clone_new A n cap zs w hz hn hl).mono fun _ _ ⟨A', cap', h1, h2, _, h3⟩ => ⟨A', cap', h1, h2, h3⟩
theorem Bk.put {w : World} {g g' : Nat} {t : TypeId} {cs : Array Value} (h : Bk w g t cs) {i : Nat} {v : Value} (hne : g ≠ g') : Bk (w.setCell ⟨g', i, none⟩ v) g t cs := (heap_setCell_other w ⟨g', i, none⟩ g v hne).trans h
/-- Eight cells, stored one by one. -/
abbrev put8 (w : World) (g : Nat) (a b c d e f h i : Value) : World := (((((((w.setCell ⟨g, 0, none⟩ a).setCell ⟨g, 1, none⟩ b).setCell ⟨g, 2, none⟩ c).setCell ⟨g, 3, none⟩ d).setCell ⟨g, 4, none⟩ e).setCell ⟨g, 5, none⟩ f).setCell ⟨g, 6, none⟩ h).setCell ⟨g, 7, none⟩ i
theorem Bk.put8 {w : World} {g : Nat} {t : TypeId} {x0 x1 x2 x3 x4 x5 x6 x7 a b c d e f h i : Value} (k : Bk w g t #[x0, x1, x2, x3, x4, x5, x6, x7]) : Bk (put8 w g a b c d e f h i) g t #[a, b, c, d, e, f, h, i] := by
  have := (((((((k.set 0 a).set 1 b).set 2 c).set 3 d).set 4 e).set 5 f).set 6 h).set 7 i
  simpa using this
theorem below_put8 {B : Nat} {w V : World} {g : Nat} {a b c d e f h i : Value} (k : Below B w V) (hg : B ≤ g) : Below B w (Ytjolkcomlindhaa.put8 V g a b c d e f h i) :=
  (((((((k.setCell hg a).setCell hg b).setCell hg c).setCell hg d).setCell hg e).setCell hg f).setCell hg h).setCell hg i
theorem Cs.set {w : World} {A : Option Addr} {zs : List Int} (h : Cs w A zs) {g i : Nat} {t : TypeId} {cs : Array Value} {v : Value} (k : Bk w g t cs) (ht : t ≠ 3) : Cs (w.setCell ⟨g, i, none⟩ v) A zs := by
  have hne : ∀ ad, A = some ad → ad.block ≠ g := fun ad e => by
    obtain ⟨cur, hc⟩ := h.cells ad e
    rintro rfl
    unfold Bk at k
    rw [hc] at k
    injection k with k
    injection k with _ k
    exact ht k.symm
  refine ⟨?_, fun ad e => ?_⟩
  · rcases h.ints with e | ⟨ad, e, h1, h2⟩
    · exact .inl e
    · refine .inr ⟨ad, e, by simpa using h1, fun j hj => ?_⟩
      rw [← h2 j hj]
      simp only [World.cell?, block_add, heap_setCell_other w ⟨g, i, none⟩ ad.block v (hne ad e)]
  · obtain ⟨cur, hc⟩ := h.cells ad e
    exact ⟨cur, (heap_setCell_other w ⟨g, i, none⟩ ad.block v (hne ad e)).trans hc⟩
theorem Cs.put8 {w : World} {A : Option Addr} {zs : List Int} (q : Cs w A zs) {g : Nat} {t : TypeId} {x0 x1 x2 x3 x4 x5 x6 x7 a b c d e f h i : Value} (k : Bk w g t #[x0, x1, x2, x3, x4, x5, x6, x7]) (ht : t ≠ 3) : Cs (Ytjolkcomlindhaa.put8 w g a b c d e f h i) A zs :=
  (((((((q.set k ht).set (k.set 0 a) ht).set ((k.set 0 a).set 1 b) ht).set (((k.set 0 a).set 1 b).set 2 c) ht).set ((((k.set 0 a).set 1 b).set 2 c).set 3 d) ht).set (((((k.set 0 a).set 1 b).set 2 c).set 3 d).set 4 e) ht).set ((((((k.set 0 a).set 1 b).set 2 c).set 3 d).set 4 e).set 5 f) ht).set (((((((k.set 0 a).set 1 b).set 2 c).set 3 d).set 4 e).set 5 f).set 6 h) ht
/-- A task. -/
abbrev tkC (p j e s r : Int) (sl : Value) (st c : Int) : Array Value := #[.int .i64 p, .int .i64 j, .int .i64 e, .int .i64 s, .int .i64 r, sl, .int .i64 st, .int .i64 c]
abbrev tkV (p j e s r : Int) (sl : Value) (st c : Int) : Value := .agg (tkC p j e s r sl st c)
set_option maxRecDepth 100000 in
set_option maxHeartbeats 1000000 in
theorem apart_new (p j e s r st c : Int) (A : Option Addr) (n cap : Nat) (zs : List Int) (w : World) (hz : IntsAt w A zs) (hn : zs.length = n) (hl : n ≤ 1000) :
    Calls Try.prog 56 #[tkV p j e s r (.slice A n cap) st c] w fun x w' => ∃ A' cap', x = .returned (tkV p j e s r (.slice A' n cap') st c) ∧ Cs w' A' zs ∧ (∀ ad, A' = some ad → w.heap.size ≤ ad.block) ∧ Below w.heap.size w w' := by
  have K := Lib.hid (fun V (hb : Below w.heap.size w V) => clone_new A n cap zs V (hz.next hb) hn hl)
  have k0 := (Bk.new w 61 (tkC p j e s r (.slice A n cap) st c)).alloc (.cells (tkC 0 0 0 0 0 (.slice none 0 0) 0 0) 61)
  have kR := Bk.new (w.alloc (.cells (tkC p j e s r (.slice A n cap) st c) 61)) 61 (tkC 0 0 0 0 0 (.slice none 0 0) 0 0)
  rw [size_alloc] at kR
  have low := (below_alloc w (.cells (tkC p j e s r (.slice A n cap) st c) 61)).alloc (by simp) (.cells (tkC 0 0 0 0 0 (.slice none 0 0) 0 0) 61)
  clear hz hn hl
  go_enter Try.func56, Try.ntmps56
  go_wp2_with fail
  refine (K.out _ low).mono ?_
  rintro x w1 ⟨A', cap', rfl, hcs, hnew, hb⟩
  have HNW := Lib.hid (show ∀ ad, A' = some ad → w.heap.size ≤ ad.block from fun ad e => Nat.le_trans low.size (hnew ad e))
  clear hnew
  replace k0 := k0.next hb
  replace kR := kR.next hb
  replace low := bmore low hb
  clear hb K
  have c5 := k0.cell 5 _ rfl
  have f5 := k0.frozen 5
  have k5 : Bk (w1.setCell ⟨w.heap.size, 5, none⟩ (.slice A' n cap')) w.heap.size 61 (tkC p j e s r (.slice A' n cap') st c) := k0.set 5 _
  have kR5 : Bk (w1.setCell ⟨w.heap.size, 5, none⟩ (.slice A' n cap')) (w.heap.size + 1) 61 (tkC 0 0 0 0 0 (.slice none 0 0) 0 0) := kR.put (by omega)
  have cs5 := hcs.set (i := 5) (v := .slice A' n cap') k0 (by decide)
  have low5 := low.setCell (p := ⟨w.heap.size, 5, none⟩) (show w.heap.size ≤ w.heap.size from Nat.le_refl _) (.slice A' n cap')
  have d0 := k5.cell 0 _ rfl
  have d1 := k5.cell 1 _ rfl
  have d2 := k5.cell 2 _ rfl
  have d3 := k5.cell 3 _ rfl
  have d4 := k5.cell 4 _ rfl
  have d5 := k5.cell 5 _ rfl
  have d6 := k5.cell 6 _ rfl
  have d7 := k5.cell 7 _ rfl
  have q0 := kR5.cell 0 _ rfl
  have q1 := kR5.cell 1 _ rfl
  have q2 := kR5.cell 2 _ rfl
  have q3 := kR5.cell 3 _ rfl
  have q4 := kR5.cell 4 _ rfl
  have q5 := kR5.cell 5 _ rfl
  have q6 := kR5.cell 6 _ rfl
  have q7 := kR5.cell 7 _ rfl
  have fkR50 := kR5.frozen 0
  have fkR51 := kR5.frozen 1
  have fkR52 := kR5.frozen 2
  have fkR53 := kR5.frozen 3
  have fkR54 := kR5.frozen 4
  have fkR55 := kR5.frozen 5
  have fkR56 := kR5.frozen 6
  have fkR57 := kR5.frozen 7
  have kz := kR5.put8 (a := .int .i64 p) (b := .int .i64 j) (c := .int .i64 e) (d := .int .i64 s) (e := .int .i64 r) (f := .slice A' n cap') (h := .int .i64 st) (i := .int .i64 c)
  have cz := cs5.put8 (a := .int .i64 p) (b := .int .i64 j) (c := .int .i64 e) (d := .int .i64 s) (e := .int .i64 r) (f := .slice A' n cap') (h := .int .i64 st) (i := .int .i64 c) kR5 (by decide)
  have lz := below_put8 (a := .int .i64 p) (b := .int .i64 j) (c := .int .i64 e) (d := .int .i64 s) (e := .int .i64 r) (f := .slice A' n cap') (h := .int .i64 st) (i := .int .i64 c) low5 (show w.heap.size ≤ w.heap.size + 1 by omega)
  clear k0 kR low hcs k5 kR5 cs5 low5
  go_wp2_with fail
  have z0 := kz.cell 0 _ rfl
  have z1 := kz.cell 1 _ rfl
  have z2 := kz.cell 2 _ rfl
  have z3 := kz.cell 3 _ rfl
  have z4 := kz.cell 4 _ rfl
  have z5 := kz.cell 5 _ rfl
  have z6 := kz.cell 6 _ rfl
  have z7 := kz.cell 7 _ rfl
  exact bodyPost_ret (v := tkV p j e s r (.slice A' n cap') st c) (by simp [results, Try.results56, go_sem, z0, z1, z2, z3, z4, z5, z6, z7]) rfl ⟨A', cap', rfl, cz, HNW.out, lz⟩
theorem apart_any (p j e s r st c : Int) (A : Option Addr) (n cap : Nat) (zs : List Int) (w : World) (hz : IntsAt w A zs) (hn : zs.length = n) (hl : n ≤ 1000) :
    Calls Try.prog 56 #[tkV p j e s r (.slice A n cap) st c] w fun x w' => ∃ A' cap', x = .returned (tkV p j e s r (.slice A' n cap') st c) ∧ Cs w' A' zs ∧ Below w.heap.size w w' :=
  (apart_new p j e s r st c A n cap zs w hz hn hl).mono fun _ _ ⟨A', cap', h1, h2, _, h3⟩ => ⟨A', cap', h1, h2, h3⟩
end Go.Proofs.Ytjolkcomlindhaa
/- procs: mayBe; mask.Of of good cores, of none. -/
namespace Go.Proofs.Ytjolkcomlindhaa
open Go.RowKit Go.Shelf Go.Maps Go.Sort

/-- What mask.Of tells of these cores: an error er. -/
def OfSays (w : World) (A : Option Addr) (n cap : Nat) (er : Int) : Prop := ∀ V, Below w.heap.size w V → ∃ a b c d : Int, Calls Try.prog 68 #[.slice A n cap] V fun x w' => x = .returned (.tuple #[.agg #[.int .u64 a, .int .u64 b, .int .u64 c, .int .u64 d], .int .i64 er]) ∧ Below V.heap.size V w'
def mayT (j e s r er : Int) (n : Nat) : Bool := numB j && numB e && numB s && numB r && (er == 0) && decide (0 < n)
set_option maxRecDepth 100000 in
set_option maxHeartbeats 2000000 in
theorem mayT_any (p j e s r st c er : Int) (A : Option Addr) (n cap : Nat) (w : World) (hO : OfSays w A n cap er) (hl : n ≤ 1000) :
    Calls Try.prog 57 #[tkV p j e s r (.slice A n cap) st c] w fun x w' => x = .returned (.bool (mayT j e s r er n)) ∧ Below w.heap.size w w' := by
  have k0 := Bk.new w 61 (tkC p j e s r (.slice A n cap) st c)
  have low := below_alloc w (.cells (tkC p j e s r (.slice A n cap) st c) 61)
  obtain ⟨a, b, c', d, K⟩ := hO _ low
  have HK := Lib.hid K
  clear K hO
  go_enter Try.func57, Try.ntmps57
  go_wp2_with fail
  refine HK.out.mono ?_
  rintro x w1 ⟨rfl, hb⟩
  replace k0 := k0.next hb
  replace low := bmore low hb
  clear hb HK
  have lb := below_alloc w1 (.cells #[.int .u64 a, .int .u64 b, .int .u64 c', .int .u64 d] 104)
  replace k0 := k0.next lb
  replace low := bmore low lb
  clear lb
  have d1 := k0.cell 1 _ rfl
  have d2 := k0.cell 2 _ rfl
  have d3 := k0.cell 3 _ rfl
  have d4 := k0.cell 4 _ rfl
  have d5 := k0.cell 5 _ rfl
  clear k0
  go_wp2_with fail
  refine (isNum_any j _).mono ?_
  rintro x w2 ⟨rfl, rfl⟩
  cases q0 : numB j
  · have e0 := Lib.hid (show mayT j e s r er n = false from by simp [mayT, q0])
    go_wp2_with fail
    go_ret
    exact ⟨by rw [e0.out]; rfl, low⟩
  go_wp2_with fail
  refine (isNum_any e _).mono ?_
  rintro x w2 ⟨rfl, rfl⟩
  cases q1 : numB e
  · have e0 := Lib.hid (show mayT j e s r er n = false from by simp [mayT, q0, q1])
    go_wp2_with fail
    go_ret
    exact ⟨by rw [e0.out]; rfl, low⟩
  go_wp2_with fail
  refine (isNum_any s _).mono ?_
  rintro x w2 ⟨rfl, rfl⟩
  cases q2 : numB s
  · have e0 := Lib.hid (show mayT j e s r er n = false from by simp [mayT, q0, q1, q2])
    go_wp2_with fail
    go_ret
    exact ⟨by rw [e0.out]; rfl, low⟩
  go_wp2_with fail
  refine (isNum_any r _).mono ?_
  rintro x w2 ⟨rfl, rfl⟩
  cases q3 : numB r
  · have e0 := Lib.hid (show mayT j e s r er n = false from by simp [mayT, q0, q1, q2, q3])
    go_wp2_with fail
    go_ret
    exact ⟨by rw [e0.out]; rfl, low⟩
  by_cases he : er = 0
  · have t0 : (er == 0) = true := by simpa using he
    by_cases hn : 0 < n
    · have e0 := Lib.hid (show mayT j e s r er n = true from by simp [mayT, q0, q1, q2, q3, he, hn])
      clear he
      go_wp2_with fail
      go_ret
      exact ⟨by rw [e0.out]; rfl, low⟩
    · have e0 := Lib.hid (show mayT j e s r er n = false from by simp [mayT, hn])
      obtain rfl : n = 0 := by omega
      clear he
      go_wp2_with fail
      go_ret
      exact ⟨by rw [e0.out]; rfl, low⟩
  · have t0 : (er == 0) = false := by simpa using he
    have e0 := Lib.hid (show mayT j e s r er n = false from by simp [mayT, he])
    clear he
    go_wp2_with fail
    go_ret
    exact ⟨by rw [e0.out]; rfl, low⟩
theorem vs4 {l : List Nat} (h : Mo.Mk.W4 l) : ∃ a b c d : Int, Mo.vs .u64 l = #[.int .u64 a, .int .u64 b, .int .u64 c, .int .u64 d] := by
  rw [Mo.Mk.len4 h.1]
  exact ⟨_, _, _, _, rfl⟩
end Go.Proofs.Ytjolkcomlindhaa
