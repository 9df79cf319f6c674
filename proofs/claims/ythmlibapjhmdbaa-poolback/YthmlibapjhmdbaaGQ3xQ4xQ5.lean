/- A pool: New, has, Release. -/
import Derived.Test.YthmlibapjhmdbaaGW14xQ1xQ2
namespace Go.Proofs.Ythmlibapjhmdbaa
open Go.RowKit Go.Shelf Go.Maps

theorem has_any {w : World} {p b k s q : Nat} {g : Int → Option Sh} (h : PoolAt w p b k s q g) {n : Int} (hn : (Lit.int .i64 n).wf = true) :
    Calls Try.prog 44 #[.pointer (some ⟨p, 0, none⟩), .int .i64 n] w fun e w' => e = .returned (.bool (g n).isSome) ∧ Below w.heap.size w w' :=
  has_walk p b n _ _ _ _ _ _ w h.cells.2.2 (h.look hn).1

set_option maxRecDepth 100000 in
set_option maxHeartbeats 400000 in
theorem new_ok (s q : Nat) (w : World) (h : LOk s q) :
    Calls Try.prog 9 #[.agg #[.int .i64 s, .int .i64 q]] w fun e w' => ∃ p b, e = .returned (.pointer (some ⟨p, 0, none⟩)) ∧ w.heap.size ≤ p ∧ w.heap.size ≤ b ∧ PoolAt w' p b 0 s q (fun _ => Option.none) ∧ Below w.heap.size w w' := by
  have H := Lib.hid h
  clear h
  have hb0 := (Below.refl _ w).alloc (Nat.le_refl _) (.cells #[.int .i64 s, .int .i64 q] 28)
  have k0 := Bk.new w 28 #[.int .i64 s, .int .i64 q]
  have hmm := @run_makeMap Try.prog
  go_enter Try.func9, Try.ntmps9
  go_wp2_with fail
  refine (check_ok s q _ H.out).mono ?_
  rintro e w1 ⟨rfl, hb⟩
  replace hb0 := bmore hb0 hb; replace k0 := k0.next hb; clear hb
  have c0 := k0.cell 0 _ rfl
  have c1 := k0.cell 1 _ rfl
  go_wp2_with fail
  go_ret
  have hs := hb0.size
  refine ⟨w1.heap.size + 1, w1.heap.size, rfl, by omega, by omega, ⟨?_, .map [], ?_, says_none⟩, ?_⟩
  · have := Bk.new (w1.alloc (.map #[] 0)) 67 #[.int .i64 s, .int .i64 q, .map (some w1.heap.size)]
    rw [size_alloc] at this
    exact this
  · exact (World.ownsMap_made w1 Try.prog 3 shE).alloc _
  · exact (hb0.alloc hb0.size _).alloc (by rw [size_alloc]; omega) _

set_option maxRecDepth 100000 in
set_option maxHeartbeats 400000 in
theorem new_bad (s q : Int) (w : World) (h : LBad s q) :
    Calls Try.prog 9 #[.agg #[.int .i64 s, .int .i64 q]] w fun e w' => e = .returned (.pointer Option.none) ∧ Below w.heap.size w w' := by
  have H := Lib.hid h
  clear h
  have hb0 := (Below.refl _ w).alloc (Nat.le_refl _) (.cells #[.int .i64 s, .int .i64 q] 28)
  go_enter Try.func9, Try.ntmps9
  go_wp2_with fail
  refine (check_bad s q _ H.out).mono ?_
  rintro e w1 ⟨rfl, hb⟩
  go_wp2_with fail
  go_ret
  exact ⟨rfl, bmore hb0 hb⟩

/-- A pool of which one owner has turned; all else is as it was. -/
structure Turned (w w' : World) (p b k s q : Nat) (g : Int → Option Sh) : Prop where
  pool : PoolAt w' p b k s q g
  grown : w.grownBy w' (some b)
theorem Bk.grown {w w' : World} {g b : Nat} {t : TypeId} {cs : Array Value} (h : Bk w g t cs) (hg : w.grownBy w' (some b)) (hne : g ≠ b) : Bk w' g t cs := (hg.block g h.lt (by simpa using hne)).trans h
theorem PoolAt.ne {w : World} {p b k s q : Nat} {g : Int → Option Sh} (h : PoolAt w p b k s q g) : p ≠ b := by
  rintro rfl
  obtain ⟨D, ⟨es, cl, hb, _⟩, _⟩ := h.own
  have := h.blk
  unfold Bk at this
  rw [hb] at this
  cases this

set_option maxRecDepth 100000 in
set_option maxHeartbeats 400000 in
theorem release_no {w : World} {p b k s q : Nat} {g : Int → Option Sh} (h : PoolAt w p b k s q g) {n : Int} (hn : (Lit.int .i64 n).wf = true) (hg : (g n).isSome = false) :
    Calls Try.prog 25 #[.pointer (some ⟨p, 0, none⟩), .int .i64 n] w fun e w' => e = .returned (.int .i64 14) ∧ Below w.heap.size w w' := by
  have K := Lib.hid (has_any h hn)
  rw [hg] at K
  clear hg
  go_enter Try.func25, Try.ntmps25
  go_wp2_with fail
  refine K.out.mono ?_
  rintro e w1 ⟨rfl, hb⟩
  go_wp2_with fail
  go_ret
  exact ⟨rfl, hb⟩

set_option maxRecDepth 100000 in
set_option maxHeartbeats 400000 in
theorem release_ok {w : World} {p b k s q : Nat} {g : Int → Option Sh} (h : PoolAt w p b k s q g) {n : Int} (hn : (Lit.int .i64 n).wf = true) (hg : (g n).isSome = true) :
    Calls Try.prog 25 #[.pointer (some ⟨p, 0, none⟩), .int .i64 n] w fun e w' => e = .returned (.int .i64 0) ∧ Turned w w' p b k s q (fun m => if m = n then Option.none else g m) := by
  have K := Lib.hid (has_any h hn)
  rw [hg] at K
  clear hg
  have HN := Lib.hid hn
  clear hn
  go_enter Try.func25, Try.ntmps25
  go_wp2_with fail
  refine K.out.mono ?_
  rintro e w1 ⟨rfl, hb⟩
  have h1 := h.next hb
  obtain ⟨D, ho, hs⟩ := h1.own
  have c2 := h1.cells.2.2
  go_wp2_with (at_delete; refine wpList_delete_own _ rfl _ _ 65 3 rfl 78 law Try.underlying65 _ b k D rfl ho _ _ rfl (key_of HN.out) ?_; intro w2 ho2 ht2)
  go_ret
  refine ⟨rfl, ⟨?_, D.del (ky n), ho2, hs.del n ho2.isMap⟩, ?_⟩
  · exact h1.blk.grown ht2.grown h1.ne
  · exact (only_of_below hb).but _ |>.trans ht2.grown
end Go.Proofs.Ythmlibapjhmdbaa
/- A pool: isOwner, isEmpty, Of. -/
namespace Go.Proofs.Ythmlibapjhmdbaa
open Go.RowKit Go.Shelf Go.Maps

attribute [local go_sem] eq33 eq40
def isOwn (n : Int) : Bool := decide (0 ≤ n) && decide (n ≤ 1099511627776)

set_option maxRecDepth 100000 in
set_option maxHeartbeats 400000 in
theorem isOwner_any (n : Int) (w : World) : Calls Try.prog 45 #[.int .i64 n] w fun e w' => e = .returned (.bool (isOwn n)) ∧ w = w' := by
  unfold isOwn
  by_cases h : 0 ≤ n
  · have t0 : decide (0 ≤ n) = true := by simpa using h
    go_enter Try.func45, Try.ntmps45
    go_wp2_with fail
    go_ret
    exact ⟨by rw [t0]; rfl, rfl⟩
  · have t0 : decide (0 ≤ n) = false := by simpa using h
    go_enter Try.func45, Try.ntmps45
    go_wp2_with fail
    go_ret
    exact ⟨by first | rfl | (rw [t0]; rfl), rfl⟩

set_option maxRecDepth 100000 in
set_option maxHeartbeats 400000 in
theorem isEmpty_any (a0 a1 a2 a3 : Nat) (w : World) : Calls Try.prog 48 #[.agg #[.int .u64 a0, .int .u64 a1, .int .u64 a2, .int .u64 a3]] w fun e w' => e = .returned (.bool ((a0 : Int) == 0 && (a1 : Int) == 0 && (a2 : Int) == 0 && (a3 : Int) == 0)) ∧ Below w.heap.size w w' := by
  have hb := (Below.refl _ w).alloc (Nat.le_refl _) (.cells #[.int .u64 a0, .int .u64 a1, .int .u64 a2, .int .u64 a3] 40)
  go_enter Try.func48, Try.ntmps48
  go_wp2_with fail
  go_ret
  exact ⟨rfl, hb⟩

set_option maxRecDepth 100000 in
set_option maxHeartbeats 1000000 in
theorem of_walk (p b : Nat) (n : Int) (a0 a1 a2 a3 : Nat) (t : Bool) (w : World) (c2 : w.cell? ⟨p, 2, none⟩ = some (.map (some b))) (hp : p < w.heap.size)
    (hl : ∀ V, Below w.heap.size w V → (Instr.lookup 65 (.map (some b)) (.int .i64 n) false).run Try.prog V = .ok (.agg #[.int .u64 a0, .int .u64 a1, .int .u64 a2, .int .u64 a3, .bool t]) V) :
    Calls Try.prog 18 #[.pointer (some ⟨p, 0, none⟩), .int .i64 n] w fun e w' => e = .returned (.tuple #[.agg #[.int .u64 a0, .int .u64 a1, .int .u64 a2, .int .u64 a3], .bool t]) ∧ Below w.heap.size w w' := by
  have hb0 := (Below.refl _ w).alloc (Nat.le_refl _) (.cells #[.int .u64 0, .int .u64 0, .int .u64 0, .int .u64 0] 40)
  have r0 := Row.new w .u64 40 Mk.zero #[.int .u64 0, .int .u64 0, .int .u64 0, .int .u64 0] rfl
  have hl1 := hl _ hb0
  have c3 := (hb0.cell (p := ⟨p, 2, none⟩) hp).trans c2
  clear hl
  have j0 := Bk.new (w.alloc (.cells #[.int .u64 0, .int .u64 0, .int .u64 0, .int .u64 0] 40)) 78 #[.int .u64 a0, .int .u64 a1, .int .u64 a2, .int .u64 a3, .bool t]
  replace r0 := r0.alloc (.cells #[.int .u64 a0, .int .u64 a1, .int .u64 a2, .int .u64 a3, .bool t] 78)
  replace hb0 := hb0.alloc (by simp) (.cells #[.int .u64 a0, .int .u64 a1, .int .u64 a2, .int .u64 a3, .bool t] 78)
  simp only [size_alloc] at j0
  go_enter Try.func18, Try.ntmps18
  go_wp2_with fail
  clear hl1 c3
  generalize (w.alloc (.cells #[.int .u64 0, .int .u64 0, .int .u64 0, .int .u64 0] 40)).alloc (.cells #[.int .u64 a0, .int .u64 a1, .int .u64 a2, .int .u64 a3, .bool t] 78) = W at *
  have q0 := j0.cell 0 _ rfl
  have q1 := j0.cell 1 _ rfl
  have q2 := j0.cell 2 _ rfl
  have q3 := j0.cell 3 _ rfl
  have q4 := j0.cell 4 _ rfl
  have z0 := r0.cell 0 (by simp [Mk.zero])
  have z1 := r0.cell 1 (by simp [Mk.zero])
  have z2 := r0.cell 2 (by simp [Mk.zero])
  have z3 := r0.cell 3 (by simp [Mk.zero])
  have f0 := r0.frozen 0
  have f1 := r0.frozen 1
  have f2 := r0.frozen 2
  have f3 := r0.frozen 3
  go_region
  have r9 : Row .u64 40 _ w.heap.size [a0, a1, a2, a3] := ((((r0.set 0 a0).set 1 a1).set 2 a2).set 3 a3).drew
  have hb9 := ((((hb0.setCell (p := ⟨w.heap.size, 0, none⟩) (by simp) (.int .u64 (a0 : Nat))).setCell (p := ⟨w.heap.size, 1, none⟩) (by simp) (.int .u64 (a1 : Nat))).setCell (p := ⟨w.heap.size, 2, none⟩) (by simp) (.int .u64 (a2 : Nat))).setCell (p := ⟨w.heap.size, 3, none⟩) (by simp) (.int .u64 (a3 : Nat))).drew
  have hz : (Try.prog.info? 40).map (·.size) = some [a0, a1, a2, a3].length := info33
  go_wp2_with fail
  exact bodyPost_ret (results_row_tmp rfl _ _ w.heap.size .u64 40 _ _ rfl r9 Try.underlying40 rfl hz) rfl ⟨rfl, hb9⟩
theorem PoolAt.look_below {w : World} {p b k s q : Nat} {g : Int → Option Sh} (h : PoolAt w p b k s q g) {n : Int} (hn : (Lit.int .i64 n).wf = true) (V : World) (hb : Below w.heap.size w V) :
    (Instr.lookup 65 (.map (some b)) (.int .i64 n) false).run Try.prog V = .ok (shV ((g n).getD Sh.none)) V := ((h.next hb).look hn).2
/-- What Of tells. -/
theorem ofOwner_any {w : World} {p b k s q : Nat} {g : Int → Option Sh} (h : PoolAt w p b k s q g) {n : Int} (hn : (Lit.int .i64 n).wf = true) :
    Calls Try.prog 18 #[.pointer (some ⟨p, 0, none⟩), .int .i64 n] w fun e w' => e = .returned (.tuple #[.agg (vs .u64 ((g n).getD Sh.none).m), .bool ((g n).getD Sh.none).t]) ∧ Below w.heap.size w w' := by
  have := of_walk p b n _ _ _ _ _ w h.cells.2.2 h.blk.lt (fun V hb => h.look_below hn V hb)
  rw [show vs .u64 ((g n).getD Sh.none).m = #[.int .u64 (Mk.nth ((g n).getD Sh.none).m 0 : Nat), .int .u64 (Mk.nth ((g n).getD Sh.none).m 1 : Nat), .int .u64 (Mk.nth ((g n).getD Sh.none).m 2 : Nat), .int .u64 (Mk.nth ((g n).getD Sh.none).m 3 : Nat)] from by
    conv => lhs; rw [Mk.len4 ((g n).getD Sh.none).ok.1]
    rfl]
  exact this
end Go.Proofs.Ythmlibapjhmdbaa
/- A pool: Free. -/
namespace Go.Proofs.Ythmlibapjhmdbaa
open Go.RowKit Go.Shelf Go.Maps

theorem andN_W4 {a b : List Nat} (ha : Mk.W4 a) (hb : Mk.W4 b) : Mk.W4 (zw andN a b) := by
  refine ⟨zw_len ha.1 hb.1, fun i => ?_⟩
  by_cases hi : i < 4
  · rw [zw_nth ha.1 hb.1 hi]; exact Nat.and_lt_two_pow _ (by show _ < 18446744073709551616; omega)
  · rw [Mk.nth_getElem?, List.getElem?_eq_none (by rw [zw_len ha.1 hb.1]; omega)]; exact Nat.two_pow_pos 64
theorem has_andN {a b : List Nat} (ha : Mk.W4 a) (hb : Mk.W4 b) {d : Nat} (hd : d < 256) : Mk.hasB (zw andN a b) d = (Mk.hasB a d && !Mk.hasB b d) := by
  unfold Mk.hasB
  rw [zw_nth ha.1 hb.1 (by omega)]
  have hy := hb.2 (d / 64)
  have hj : d % 64 < 64 := by omega
  generalize Mk.nth b (d / 64) = y at *
  unfold andN
  rw [Nat.testBit_and, show 18446744073709551615 - y = 2 ^ 64 - (y + 1) by omega, Nat.testBit_two_pow_sub_succ hy]
  simp [hj]
/-- The cores that are left when some owners' are taken away. -/
def Left (all m : List Nat) (g : Int → Option Sh) (left : Lit → Bool) : Prop :=
  ∀ d, d < 256 → (Mk.hasB m d = true ↔ Mk.hasB all d = true ∧ ∀ n sh, g n = some sh → left (ky n) = false → Mk.hasB sh.m d = false)
theorem same_ky (n x : Int) : (ky n).sameKey (ky x) = decide (n = x) := by
  by_cases h : n = x
  · subst h; simp [WideAt.sameKey_self (ky_lit n)]
  · simp [h, Lit.sameKey]
theorem left_start {D : DataW Unit} {g : Int → Option Sh} (h : Says D g) (all : List Nat) : Left all all g (Maps.has D) := by
  intro d _
  constructor
  · refine fun hd => ⟨hd, fun n sh hn hl => ?_⟩
    rw [h.has n, hn] at hl
    cases hl
  · exact fun hd => hd.1
theorem left_step {all m : List Nat} {g : Int → Option Sh} {left : Lit → Bool} {x : Int} {c : Sh} (h : Left all m g left) (hm : Mk.W4 m) (hx : g x = some c) : Left all (zw andN m c.m) g (fun z => left z && !z.sameKey (ky x)) := by
  intro d hd
  rw [has_andN hm c.ok hd, Bool.and_eq_true, h d hd]
  constructor
  · rintro ⟨⟨h1, h2⟩, h3⟩
    refine ⟨h1, fun n sh hn hl => ?_⟩
    have hl2 : (left (ky n) && !(ky n).sameKey (ky x)) = false := hl
    rw [same_ky] at hl2
    by_cases e : n = x
    · subst e
      rw [hx] at hn
      cases hn
      simpa using h3
    · exact h2 n sh hn (by simpa [e] using hl2)
  · rintro ⟨h1, h2⟩
    refine ⟨⟨h1, fun n sh hn hl => h2 n sh hn (by simp [hl])⟩, ?_⟩
    have := h2 x c hx (show (left (ky x) && !(ky x).sameKey (ky x)) = false by rw [same_ky]; simp)
    simp [this]
theorem Row.grown {k : IntKind} {t : TypeId} {w w' : World} {g b : Nat} {l : List Nat} (h : Row k t w g l) (hg : w.grownBy w' (some b)) (hne : g ≠ b) : Row k t w' g l := (hg.block g h.lt (by simpa using hne)).trans h

theorem box40 {w w' : World} {m : List Nat} (h : Hid (w' = (w.alloc (.cells #[.int .u64 0, .int .u64 0, .int .u64 0, .int .u64 0] 40)).setRow w.heap.size (vs .u64 m))) : Row .u64 40 w' w.heap.size m ∧ Below w.heap.size w w' :=
  ⟨(Row.new w .u64 40 Mk.zero _ rfl).hidSet h, below_hidSet ((Below.refl _ _).alloc (Nat.le_refl _) _) h (Nat.le_refl _)⟩
set_option maxRecDepth 100000 in
set_option maxHeartbeats 2000000 in
theorem free_any {w : World} {p b k s q : Nat} {g : Int → Option Sh} (h : PoolAt w p b k s q g) (hL : LOk s q) :
    Calls Try.prog 13 #[.pointer (some ⟨p, 0, none⟩)] w fun e w' => ∃ m, e = .returned (.agg (vs .u64 m)) ∧ Mk.W4 m ∧ Left (Mk.ofL (List.range (s * q))) m g (fun _ => false) ∧ Below w.heap.size w w' := by
  have HL := Lib.hid hL
  obtain ⟨all, ha⟩ : ∃ all, all = Mk.ofL (List.range (s * q)) := ⟨_, rfl⟩
  have hall := Lib.hid (range_W4 hL.2.2.2.2)
  have HC := Lib.hid (fun V => call_ok s q V hL)
  rw [← ha] at hall HC
  rw [← ha]
  clear hL ha
  have hb0 := (Below.refl _ w).alloc (Nat.le_refl _) (.cells #[.int .u64 0, .int .u64 0, .int .u64 0, .int .u64 0] 40)
  have r0 := Row.new w .u64 40 Mk.zero #[.int .u64 0, .int .u64 0, .int .u64 0, .int .u64 0] rfl
  have hbw : b < w.heap.size := by
    obtain ⟨D, ho, _⟩ := h.own
    exact ho.lt
  replace h := h.next ((Below.refl _ w).alloc (Nat.le_refl _) (.cells #[.int .u64 0, .int .u64 0, .int .u64 0, .int .u64 0] 40))
  have hpb := h.ne
  have hbl : b < (w.alloc (.cells #[.int .u64 0, .int .u64 0, .int .u64 0, .int .u64 0] 40)).heap.size := by
    obtain ⟨D, ho, _⟩ := h.own
    exact ho.lt
  obtain ⟨c0, c1, c2⟩ := h.cells
  go_enter Try.func13, Try.ntmps13
  go_wp2_with fail
  refine (HC.out _).mono ?_
  rintro e w1 ⟨rfl, hb⟩
  replace r0 := r0.next hb; replace hb0 := bmore hb0 hb; replace h := h.next hb
  have hlw1 : w.heap.size < w1.heap.size := r0.lt
  clear hb c0 c1 c2 hbl HC HL
  have hz := Lib.hid (info33' hall.out)
  have hlz := Lib.hid (zero_len hall.out)
  have hzz := Lib.hid (info33' Mk.W4.zero)
  go_wp2_with (first
    | (refine store_law rfl 40 _ _ rfl w1.heap.size .u64 Mk.zero all rfl rfl 40 (Row.new w1 .u64 40 Mk.zero _ rfl) hlz.out hz.out ?_; intro w2 hw; obtain ⟨rF, hx⟩ := box40 hw; have hF := Below.size hb0; clear hw; replace r0 := r0.next hx; replace hb0 := bmore hb0 hx; replace h := h.next hx; clear hx; obtain ⟨c0, c1, c2⟩ := h.cells; obtain ⟨D, ho, hS⟩ := h.own)
    | (at_range; refine wpList_range_own _ rfl _ 65 rfl 3 78 law Try.underlying65 _ b k D rfl ho ?_; intro w3 hrg hg3 hs3))
  have HS := Lib.hid hS
  have hl0 := r0.lt
  have hl1 := rF.lt
  have HLf := Lib.hid (left_start hS all)
  replace r0 : Row .u64 40 w3 w.heap.size Mk.zero := (hg3.block _ r0.lt (by simp)).trans r0
  replace rF : Row .u64 40 w3 w1.heap.size all := (hg3.block _ rF.lt (by simp)).trans rF
  have hbb : Below w.heap.size w w3 := hb0.grown hg3 hb0.size (fun j ej => by cases ej)
  have hr2 := hbb.size
  have hs0 := hb0.size
  clear hS ho hg3 hb0 c0 c1 c2 h
  go_frame
  go_loopw [5] (fun _ wr => ∃ (left : Lit → Bool) (cnt : Nat) (m : List Nat), wr.ranges Try.prog 3 shE b w2.heap.size k D left cnt ∧ Mk.W4 m ∧ Left all m g left ∧ Row .u64 40 wr w.heap.size Mk.zero ∧ Row .u64 40 wr w1.heap.size m ∧ Below w.heap.size w wr)
    (fun _ wr => wr.rangeLeft b w2.heap.size)
  case atStart => exact ⟨_, _, all, hrg, hall.out, HLf.out, r0, rF, hbb⟩
  case round =>
    clear r0 rF hbb hrg HLf
    obtain ⟨left, cnt, m, hrg, hm, hLf, r0, rF, hbb⟩ := hrel
    have HM := Lib.hid hm
    have HLf := Lib.hid hLf
    clear hm hLf
    have hzm := Lib.hid (info33' HM.out)
    have hlm := Lib.hid (zero_len HM.out)
    go_wp2_with (at_next; refine wpList_next_ranges (α := Int) (β := Sh) _ rfl _ rfl 3 law shE (Value.int .i64) shV (fun key kl hkey => by obtain ⟨x, rfl, _⟩ := Maps.keyOf_int_inv Try.underlying3 hkey; exact ⟨x, rfl⟩) (fun v y hv => by obtain ⟨c, rfl, _⟩ := shE_inv hv; exact ⟨c, rfl⟩) b w2.heap.size k D left cnt rfl hrg ?_ ?_)
    · intro _ hl
      have HE : Hid (left = fun _ => false) := funext hl
      rw [HE.out] at HLf
      go_wp2_with (first | (refine load_law rfl 40 _ rfl w1.heap.size .u64 m rfl 40 _ rF Try.underlying40 rfl hzm.out ?_) | (refine store_law rfl 40 _ _ rfl w.heap.size .u64 Mk.zero m rfl rfl 40 r0 hlm.out hzm.out ?_; intro w7 hw7))
      exact bodyPost_ret (results_row rfl _ _ w.heap.size .u64 40 _ _ rfl (r0.hidSet hw7) Try.underlying40 rfl hzm.out) rfl ⟨m, rfl, HM.out, HLf.out, below_hidSet hbb hw7 (Nat.le_refl _)⟩
    · intro x c kl y1 y2 w4 cnt1 hkey hlx hRv hat hrg1 hlt hg1 hs1 hen
      obtain ⟨x', ex, rfl, hwx⟩ := Maps.keyOf_int_inv Try.underlying3 hkey
      cases ex
      have hgx : g x = some c := by
        have h1 := Maps.has_true_of_atKey hat
        rw [HS.out.has x] at h1
        obtain ⟨s', hs'⟩ := Option.isSome_iff_exists.1 h1
        obtain ⟨s2, e2, e3⟩ := shE_inv hRv
        have e4 := HS.out.at_ x s' hs' (shD Sh.none)
        have e5 : y1 = shD s2 := congrArg Prod.fst e3
        rw [hat, e5] at e4
        rw [hs', ← shD_inj e4, shV_inj e2]
      have HN := Lib.hid (left_step HLf.out HM.out hgx)
      have hc4 : c.m = [Mk.nth c.m 0, Mk.nth c.m 1, Mk.nth c.m 2, Mk.nth c.m 3] := Mk.len4 c.ok.1
      have hzw : zw andN m [Mk.nth c.m 0, Mk.nth c.m 1, Mk.nth c.m 2, Mk.nth c.m 3] = zw andN m c.m := by rw [← hc4]
      have KM := Lib.hid (show ∀ V, Calls Try.prog 24 #[.agg (vs .u64 m), .agg #[.int .u64 (Mk.nth c.m 0 : Nat), .int .u64 (Mk.nth c.m 1 : Nat), .int .u64 (Mk.nth c.m 2 : Nat), .int .u64 (Mk.nth c.m 3 : Nat)]] V fun e w' => e = .returned (.agg (vs .u64 (zw andN m c.m))) ∧ Below V.heap.size V w' from fun V => by
        have := minus_any m [Mk.nth c.m 0, Mk.nth c.m 1, Mk.nth c.m 2, Mk.nth c.m 3] V HM.out (by rw [← hc4]; exact c.ok)
        rw [hzw] at this
        exact this)
      clear hzw
      have HW := Lib.hid (andN_W4 HM.out c.ok)
      have hen2 : (Instr.entry (.pointer (some ⟨w2.heap.size, 0, none⟩))).run Try.prog w4 = .ok (.tuple #[.int .i64 x, .agg #[.int .u64 (Mk.nth c.m 0 : Nat), .int .u64 (Mk.nth c.m 1 : Nat), .int .u64 (Mk.nth c.m 2 : Nat), .int .u64 (Mk.nth c.m 3 : Nat), .bool c.t]]) w4 := hen
      have hne0 : w.heap.size ≠ w2.heap.size := by omega
      have hne1 : w1.heap.size ≠ w2.heap.size := by omega
      replace r0 := r0.grown hg1 hne0
      replace rF := rF.grown hg1 hne1
      replace hbb := hbb.grown hg1 hbb.size (fun j ej => by cases ej; omega)
      have hlt4 := rF.lt
      have hz9 := Lib.hid (info33' HW.out)
      have hl9 := Lib.hid (len_len HM.out HW.out)
      clear hen hRv hat hkey hlx hgx hc4 hg1 hs1 HLf
      have hx : Below w4.heap.size w4 (w4.alloc (.cells #[.int .u64 (Mk.nth c.m 0 : Nat), .int .u64 (Mk.nth c.m 1 : Nat), .int .u64 (Mk.nth c.m 2 : Nat), .int .u64 (Mk.nth c.m 3 : Nat), .bool c.t] 78)) := (Below.refl _ _).alloc (Nat.le_refl _) _
      have rFa := rF.next hx
      have r0a := r0.next hx
      have hba := hbb.trans (hx.mono hbb.size)
      have hrga := hrg1.alloc (.cells #[.int .u64 (Mk.nth c.m 0 : Nat), .int .u64 (Mk.nth c.m 1 : Nat), .int .u64 (Mk.nth c.m 2 : Nat), .int .u64 (Mk.nth c.m 3 : Nat), .bool c.t] 78)
      clear hx
      go_wp2_with (refine load_law rfl 40 _ rfl w1.heap.size .u64 m rfl 40 _ rFa Try.underlying40 rfl hzm.out ?_)
      refine (KM.out _).mono ?_
      rintro e w5 ⟨rfl, hb5⟩
      replace rFa := rFa.next hb5
      replace r0a := r0a.next hb5
      replace hba := hba.trans (hb5.mono hba.size)
      replace hrga := hrga.kept (only_of_below hb5) (by simp) (by simp)
      clear hb5 r0 rF hbb hrg1
      go_wp2_with (refine store_law rfl 40 _ _ rfl w1.heap.size .u64 m (zw andN m c.m) rfl rfl 40 rFa hl9.out hz9.out ?_; intro w6 hw6)
      have hg6 : w5.grownBy w6 (some w1.heap.size) := by
        rw [hw6.out]
        exact ⟨rfl, rfl, rfl, by simp, fun i _ hi => setRow_other w5 w1.heap.size i _ (by intro e; exact hi (by rw [e]))⟩
      go_roundw
      case rel =>
        refine ⟨_, _, _, _, _, _, _, _, _, ⟨_, cnt1, zw andN m c.m, hrga.kept hg6 (by simp; omega) (by simp; omega), HW.out, HN.out, r0a.hidOther hw6 (by omega), rFa.hidSet hw6, below_hidSet hba hw6 (by omega)⟩, rfl⟩
      case measure => rw [(hrga.kept hg6 (by simp; omega) (by simp; omega)).left_eq, hrg.left_eq]; exact hlt
end Go.Proofs.Ythmlibapjhmdbaa
