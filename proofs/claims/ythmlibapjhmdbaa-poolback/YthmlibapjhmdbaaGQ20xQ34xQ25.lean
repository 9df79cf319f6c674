/- A pool's owners as a rising list. -/
import Derived.Test.YthmlibapjhmdbaaGW23xQ19xQ24
import Derived.Laws.OwnMore
namespace Go.Proofs.Ythmlibapjhmdbaa
open Go.RowKit Go.Shelf Go.Maps

theorem split_len (n : Int) : ∀ L : List Int, (L.filter (fun x => decide (x < n))).length + (L.filter (fun x => decide (n < x))).length ≤ L.length
  | [] => by simp
  | x :: L => by
    have := split_len n L
    simp only [List.filter_cons, List.length_cons]
    rcases Int.lt_trichotomy x n with h | h | h
    · have h2 : ¬ n < x := by omega
      simp [h, h2]; omega
    · have h1 : ¬ x < n := by omega
      have h2 : ¬ n < x := by omega
      simp [h1, h2]; omega
    · have h2 : ¬ x < n := by omega
      simp [h, h2]; omega
/-- Who has cores: rising, at most so many; and each has one. -/
structure Own (g : Int → Option Sh) (L : List Int) (k : Nat) : Prop where
  up : L.Pairwise (· < ·)
  has : ∀ n, n ∈ L ↔ (g n).isSome = true
  len : L.length ≤ k
  some_ : ∀ n c, g n = some c → c.m ≠ Mk.zero
theorem Own.none : Own (fun _ => Option.none) [] 0 := ⟨List.Pairwise.nil, fun n => by simp, Nat.le_refl _, fun n c h => by cases h⟩
theorem Own.more {g : Int → Option Sh} {L : List Int} {k : Nat} (h : Own g L k) : Own g L (k + 1) := ⟨h.up, h.has, by have := h.len; omega, h.some_⟩
theorem Own.put {g : Int → Option Sh} {L : List Int} {k : Nat} (h : Own g L k) (n : Int) {c : Sh} (hc : c.m ≠ Mk.zero) : ∃ L', Own (fun m => if m = n then some c else g m) L' (k + 1) := by
  refine ⟨L.filter (fun x => decide (x < n)) ++ n :: L.filter (fun x => decide (n < x)), ?_, fun m => ?_, ?_, fun m d hd => ?_⟩
  · refine List.pairwise_append.2 ⟨h.up.filter _, List.pairwise_cons.2 ⟨fun x hx => by simpa using (List.mem_filter.1 hx).2, h.up.filter _⟩, fun x hx y hy => ?_⟩
    have hx2 : x < n := by simpa using (List.mem_filter.1 hx).2
    rcases List.mem_cons.1 hy with rfl | hy
    · exact hx2
    · have hy2 : n < y := by simpa using (List.mem_filter.1 hy).2
      omega
  · simp only [List.mem_append, List.mem_cons, List.mem_filter, decide_eq_true_eq]
    by_cases e : m = n
    · subst e; simp
    · rw [if_neg e, ← h.has m]
      constructor
      · rintro (h | h | h)
        · exact h.1
        · exact absurd h e
        · exact h.1
      · intro hm
        rcases Int.lt_trichotomy m n with l | l | l
        · exact .inl ⟨hm, l⟩
        · exact absurd l e
        · exact .inr (.inr ⟨hm, l⟩)
  · have h1 := split_len n L
    have h2 := h.len
    simp only [List.length_append, List.length_cons]
    omega
  · by_cases e : m = n
    · simp only [if_pos e] at hd
      cases hd
      exact hc
    · simp only [if_neg e] at hd
      exact h.some_ m d hd
theorem Own.del {g : Int → Option Sh} {L : List Int} {k : Nat} (h : Own g L k) (n : Int) : ∃ L', Own (fun m => if m = n then Option.none else g m) L' k := by
  refine ⟨L.filter (fun x => decide (x ≠ n)), h.up.filter _, fun m => ?_, ?_, fun m d hd => ?_⟩
  · simp only [List.mem_filter, decide_eq_true_eq]
    by_cases e : m = n
    · subst e; simp
    · rw [if_neg e, ← h.has m]
      simp [e]
  · have := List.length_filter_le (fun x => decide (x ≠ n)) L
    have h2 := h.len
    omega
  · by_cases e : m = n
    · simp only [if_pos e] at hd
      cases hd
    · simp only [if_neg e] at hd
      exact h.some_ m d hd
/-- Who is among the owners has a core. -/
theorem Own.in_ {g : Int → Option Sh} {L : List Int} {k : Nat} (h : Own g L k) (n : Int) : decide (n ∈ L) = decide (((g n).getD Sh.none).m ≠ Mk.zero) := by
  rw [Bool.eq_iff_iff, decide_eq_true_eq, decide_eq_true_eq, h.has n]
  cases hg : g n with
  | none => exact ⟨fun h => (by cases h), fun h => absurd rfl h⟩
  | some c => exact ⟨fun _ => h.some_ n c hg, fun _ => rfl⟩
end Go.Proofs.Ythmlibapjhmdbaa
/- Cores that are apart, as plain facts. -/
namespace Go.Proofs.Ythmlibapjhmdbaa
open Go.RowKit Go.Shelf Go.Maps

theorem has_land {a b : List Nat} (ha : Mk.W4 a) (hb : Mk.W4 b) {d : Nat} (hd : d < 256) : Mk.hasB (zw Nat.land a b) d = (Mk.hasB a d && Mk.hasB b d) := by
  unfold Mk.hasB
  rw [zw_nth ha.1 hb.1 (by omega)]
  exact Nat.testBit_and _ _ _
theorem land_W4 {a b : List Nat} (ha : Mk.W4 a) (hb : Mk.W4 b) : Mk.W4 (zw Nat.land a b) := by
  refine ⟨zw_len ha.1 hb.1, fun i => ?_⟩
  by_cases hi : i < 4
  · rw [zw_nth ha.1 hb.1 hi]; exact Nat.and_lt_two_pow _ (hb.2 i)
  · rw [Mk.nth_getElem?, List.getElem?_eq_none (by rw [zw_len ha.1 hb.1]; omega)]; exact Nat.two_pow_pos 64
/-- Nobody has what somebody else has, and all is of these. -/
structure Apt (A : List Nat) (g : Int → Option Sh) : Prop where
  apart : ∀ n m c d, n ≠ m → g n = some c → g m = some d → ∀ x, x < 256 → Mk.hasB c.m x = true → Mk.hasB d.m x = false
  in_ : ∀ n c, g n = some c → ∀ x, x < 256 → Mk.hasB c.m x = true → Mk.hasB A x = true
theorem Apt.none (A : List Nat) : Apt A (fun _ => Option.none) := ⟨fun _ _ _ _ _ h => (by cases h), fun _ _ h => (by cases h)⟩
theorem Apt.put {A : List Nat} {g : Int → Option Sh} (h : Apt A g) (n : Int) {c : Sh} (hc : ∀ x, x < 256 → Mk.hasB c.m x = true → Mk.hasB (freeM A g) x = true) : Apt A (fun m => if m = n then some c else g m) := by
  refine ⟨fun i j a b hij ha hb x hx hax => ?_, fun i a ha x hx hax => ?_⟩
  · by_cases e1 : i = n
    · have e2 : ¬ j = n := fun e => hij (e1.trans e.symm)
      simp only [if_pos e1] at ha
      simp only [if_neg e2] at hb
      cases ha
      exact ((freeM_has A g hx).1 (hc x hx hax)).2 j b hb
    · simp only [if_neg e1] at ha
      by_cases e2 : j = n
      · simp only [if_pos e2] at hb
        cases hb
        cases hq : Mk.hasB c.m x with
        | false => rfl
        | true =>
          have := ((freeM_has A g hx).1 (hc x hx hq)).2 i a ha
          rw [hax] at this
          cases this
      · simp only [if_neg e2] at hb
        exact h.apart i j a b hij ha hb x hx hax
  · by_cases e1 : i = n
    · simp only [if_pos e1] at ha
      cases ha
      exact ((freeM_has A g hx).1 (hc x hx hax)).1
    · simp only [if_neg e1] at ha
      exact h.in_ i a ha x hx hax
theorem Apt.less {A : List Nat} {g f : Int → Option Sh} (h : Apt A g) (hf : ∀ n c, f n = some c → ∃ d, g n = some d ∧ d.m = c.m) : Apt A f := by
  refine ⟨fun i j a b hij ha hb x hx hax => ?_, fun i a ha x hx hax => ?_⟩
  · obtain ⟨a', h1, h2⟩ := hf i a ha
    obtain ⟨b', h3, h4⟩ := hf j b hb
    rw [← h4]
    exact h.apart i j a' b' hij h1 h3 x hx (by rw [h2]; exact hax)
  · obtain ⟨a', h1, h2⟩ := hf i a ha
    exact h.in_ i a' h1 x hx (by rw [h2]; exact hax)
theorem Apt.del {A : List Nat} {g : Int → Option Sh} (h : Apt A g) (n : Int) : Apt A (fun m => if m = n then Option.none else g m) :=
  h.less fun i c hc => by
    by_cases e : i = n
    · simp only [if_pos e] at hc; cases hc
    · simp only [if_neg e] at hc; exact ⟨c, hc, rfl⟩
theorem Apt.commit {A : List Nat} {g : Int → Option Sh} (h : Apt A g) {n : Int} {c : Sh} (hc : g n = some c) : Apt A (fun m => if m = n then some ⟨c.m, true, c.ok⟩ else g m) :=
  h.less fun i d hd => by
    by_cases e : i = n
    · simp only [if_pos e] at hd; cases hd; exact ⟨c, by rw [e]; exact hc, rfl⟩
    · simp only [if_neg e] at hd; exact ⟨d, hd, rfl⟩
/-- What is free, with the cores of the first owners. -/
def accM (A : List Nat) (g : Int → Option Sh) (L : List Int) (j : Nat) : List Nat := Mk.ofL ((List.range 256).filter fun x => Mk.hasB A x && (L.drop j).all fun n => !Mk.hasB ((g n).getD Sh.none).m x)
theorem flt (p : Nat → Bool) : ∀ x ∈ (List.range 256).filter p, x < 256 := fun x hx => by simpa using (List.mem_filter.1 hx).1
theorem accM_W4 (A : List Nat) (g : Int → Option Sh) (L : List Int) (j : Nat) : Mk.W4 (accM A g L j) := Mk.ofL_W4 (flt _)
theorem accM_has (A : List Nat) (g : Int → Option Sh) (L : List Int) (j : Nat) {x : Nat} (hx : x < 256) : Mk.hasB (accM A g L j) x = (Mk.hasB A x && (L.drop j).all fun n => !Mk.hasB ((g n).getD Sh.none).m x) := by
  unfold accM
  rw [Mk.has_ofL (flt _), Bool.eq_iff_iff, decide_eq_true_eq, List.mem_filter, List.mem_range]
  exact ⟨fun h => h.2, fun h => ⟨hx, h⟩⟩
theorem accM_zero {A : List Nat} {g : Int → Option Sh} {L : List Int} {k : Nat} (h : Own g L k) : accM A g L 0 = freeM A g :=
  Mk.ext (accM_W4 A g L 0) (freeM_W4 A g) fun x hx => by
    rw [Bool.eq_iff_iff, accM_has A g L 0 hx, freeM_has A g hx, Bool.and_eq_true, List.all_eq_true, List.drop_zero]
    refine and_congr Iff.rfl ⟨fun ha n sh hn => ?_, fun ha n hn => ?_⟩
    · have := ha n ((h.has n).2 (by rw [hn]; rfl))
      rw [hn] at this
      simpa using this
    · have hs := (h.has n).1 hn
      obtain ⟨sh, e⟩ := Option.isSome_iff_exists.1 hs
      have := ha n sh e
      rw [e]
      simpa using this
theorem accM_end {A : List Nat} (hA : Mk.W4 A) (g : Int → Option Sh) (L : List Int) : accM A g L L.length = A :=
  Mk.ext (accM_W4 A g L _) hA fun x hx => by rw [accM_has A g L _ hx]; simp
theorem acc_drop {L : List Int} {j : Nat} {n : Int} (h : L[j]? = some n) : L.drop j = n :: L.drop (j + 1) := by
  obtain ⟨hj, rfl⟩ := List.getElem?_eq_some_iff.1 h
  exact List.drop_eq_getElem_cons hj
theorem accM_and {A : List Nat} {g : Int → Option Sh} {L : List Int} {j : Nat} {n : Int} (h : L[j]? = some n) : zw Nat.land ((g n).getD Sh.none).m (accM A g L j) = Mk.zero :=
  Mk.ext (land_W4 ((g n).getD Sh.none).ok (accM_W4 A g L j)) Mk.W4.zero fun x hx => by
    rw [has_land ((g n).getD Sh.none).ok (accM_W4 A g L j) hx, accM_has A g L j hx, acc_drop h, Mk.has_zero, List.all_cons]
    cases Mk.hasB ((g n).getD Sh.none).m x <;> simp
theorem accM_or {A : List Nat} {g : Int → Option Sh} {L : List Int} {k : Nat} (ho : Own g L k) (ha : Apt A g) {j : Nat} {n : Int} (h : L[j]? = some n) : zw Nat.lor (accM A g L j) ((g n).getD Sh.none).m = accM A g L (j + 1) :=
  Mk.ext (lor_W4 (accM_W4 A g L j) ((g n).getD Sh.none).ok) (accM_W4 A g L (j + 1)) fun x hx => by
    rw [has_orN (accM_W4 A g L j) ((g n).getD Sh.none).ok hx, accM_has A g L j hx, accM_has A g L (j + 1) hx, acc_drop h]
    cases hm : Mk.hasB ((g n).getD Sh.none).m x with
    | false => simp [hm]
    | true =>
      obtain ⟨sh, e⟩ := Option.isSome_iff_exists.1 ((ho.has n).1 (List.mem_of_getElem? h))
      rw [e] at hm
      have hA := ha.in_ n sh e x hx hm
      have hall : ((L.drop (j + 1)).all fun n => !Mk.hasB ((g n).getD Sh.none).m x) = true := by
        rw [List.all_eq_true]
        intro i hi
        have hne : n ≠ i := by
          have := ho.up.sublist (List.drop_sublist j L)
          rw [acc_drop h] at this
          have := (List.pairwise_cons.1 this).1 i hi
          omega
        cases hgi : g i with
        | none => simp [Sh.none, Mk.has_zero]
        | some c => simpa using ha.apart n i sh c hne e hgi x hx hm
      rw [hA, hall]
      simp
theorem own_has_some {g : Int → Option Sh} {L : List Int} {k : Nat} (ho : Own g L k) {j : Nat} {n : Int} (h : L[j]? = some n) : ((g n).getD Sh.none).m ≠ Mk.zero := by
  obtain ⟨sh, e⟩ := Option.isSome_iff_exists.1 ((ho.has n).1 (List.mem_of_getElem? h))
  rw [e]
  exact ho.some_ n sh e
/-- What is free, once somebody is given cores that were free. -/
theorem freeM_put {A : List Nat} {g : Int → Option Sh} {n : Int} {c : Sh} (hn : (g n).isSome = false) : freeM A (fun m => if m = n then some c else g m) = zw andN (freeM A g) c.m :=
  Mk.ext (freeM_W4 A _) (andN_W4 (freeM_W4 A g) c.ok) fun x hx => by
    rw [Bool.eq_iff_iff, freeM_has A _ hx, has_andN (freeM_W4 A g) c.ok hx, Bool.and_eq_true, freeM_has A g hx]
    constructor
    · rintro ⟨h1, h2⟩
      refine ⟨⟨h1, fun m sh hm => ?_⟩, ?_⟩
      · by_cases e : m = n
        · subst e; rw [hm] at hn; cases hn
        · exact h2 m sh (by rw [if_neg e]; exact hm)
      · have := h2 n c (by rw [if_pos rfl])
        simp [this]
    · rintro ⟨⟨h1, h2⟩, h3⟩
      refine ⟨h1, fun m sh hm => ?_⟩
      by_cases e : m = n
      · rw [if_pos e] at hm; cases hm; simpa using h3
      · rw [if_neg e] at hm; exact h2 m sh hm
end Go.Proofs.Ythmlibapjhmdbaa
/- The document's pool in memory; what it has. -/
namespace Go.Proofs.Ythmlibapjhmdbaa
open Go.RowKit Go.Shelf Go.Maps

abbrev iv (zs : List Int) : List Value := zs.map fun z => .int .i64 z
theorem own_blk {w : World} {base size n g : Nat} {e : TypeId} {v : Value} {xs : List Value} (h : w.ownsRow base e size v n xs) (hb : v.ownBlock = some g) : base ≤ g ∧ g < w.heap.size := by
  rcases h.2 with ⟨rfl, _⟩ | ⟨g', c, cu, rfl, h2, h3, _⟩
  · simp [Value.ownBlock] at hb
  · have e : g' = g := by simpa [Value.ownBlock] using hb
    subst e
    exact ⟨h2, (Array.getElem?_eq_some_iff.1 h3).1⟩
theorem own_kept {w w' : World} {base size n : Nat} {e : TypeId} {v : Value} {xs : List Value} {o : Option Nat} (h : w.ownsRow base e size v n xs) (hg : w.grownBy w' o) (hne : ∀ g, v.ownBlock = some g → o ≠ some g) : w'.ownsRow base e size v n xs := by
  refine ⟨h.1, ?_⟩
  rcases h.2 with h0 | ⟨g, cap, cur, h1, h2, h3, h4⟩
  · exact .inl h0
  · subst h1
    exact .inr ⟨g, cap, cur, rfl, h2, (hg.block g (Array.getElem?_eq_some_iff.1 h3).1 (fun q => hne g (by simp [Value.ownBlock]) q.symm)).trans h3, h4⟩
theorem iv_set (zs : List Int) (i : Nat) (x : Int) : (iv zs).set i (.int .i64 x) = iv (zs.set i x) := by simp [iv, List.map_set]
theorem iv_snoc (zs : List Int) (x : Int) : iv (zs ++ [x]) = iv zs ++ [.int .i64 x] := by simp [iv]
/-- The document's pool: its struct, its two rows (of each core its owner; who committed). -/
structure RPool (w : World) (r : Nat) (s q : Nat) (va vb : Value) (na nb : Nat) (Ow Dn : List Int) : Prop where
  blk : Bk w r 69 #[.int .i64 s, .int .i64 q, va, vb]
  ra : w.ownsRow (r + 1) 3 1 va na (iv Ow)
  rb : w.ownsRow (r + 1) 3 1 vb nb (iv Dn)
  ab : ∀ g, va.ownBlock = some g → vb.ownBlock ≠ some g
  la : Ow.length = na
  lb : Dn.length = nb
theorem RPool.next {w w' : World} {r s q na nb : Nat} {va vb : Value} {Ow Dn : List Int} (h : RPool w r s q va vb na nb Ow Dn) (hb : Below w.heap.size w w') : RPool w' r s q va vb na nb Ow Dn := ⟨h.blk.next hb, own_next h.ra hb, own_next h.rb hb, h.ab, h.la, h.lb⟩
theorem row_at {w : World} {base : Nat} {A : Option Addr} {n cap : Nat} {L : List Int} (h : w.ownsRow base 3 1 (.slice A n cap) n (iv L)) : n = 0 ∨ ∃ g', A = some ⟨g', 0, none⟩ ∧ g' < w.heap.size ∧ ∀ j z, j < n → L[j]? = some z → w.cell? ⟨g', j, none⟩ = some (.int .i64 z) := by
  rcases h.2 with ⟨h0, h1⟩ | ⟨g', cap', cur, h1, h2, h3, h4, h5, h6, h7⟩
  · exact .inl h1
  · cases h1
    refine .inr ⟨_, rfl, (Array.getElem?_eq_some_iff.1 h3).1, fun j z hn hj => ?_⟩
    rw [cell_of_row w g' j cur 3 (0, 0) h3]
    have e1 : cur[j]? = (iv L)[j]? := by
      rw [← h7, List.getElem?_take, if_pos (by omega)]; simp
    rw [e1]
    simp [iv, hj]
/-- The cores of an owner, up to a core. -/
def hv (Ow : List Int) (n : Int) (k : Nat) : List Nat := (List.range k).filter fun c => decide (Ow[c]? = some n)
theorem hv_snoc (Ow : List Int) (n z : Int) (k : Nat) (h : Ow[k]? = some z) : hv Ow n (k + 1) = if z = n then hv Ow n k ++ [k] else hv Ow n k := by
  unfold hv
  rw [List.range_succ, List.filter_append]
  by_cases e : z = n
  · subst e; simp [h]
  · simp [h, e]
theorem hv_len (Ow : List Int) (n : Int) (k : Nat) : (hv Ow n k).length ≤ k := by
  have := List.length_filter_le (fun c => decide (Ow[c]? = some n)) (List.range k)
  simpa [hv] using this
theorem hv_lt {Ow : List Int} {n : Int} {k : Nat} (hk : k ≤ 256) : ∀ x ∈ hv Ow n k, x < 256 := fun x hx => by
  have := List.mem_range.1 (List.mem_filter.1 hx).1
  omega
set_option maxRecDepth 100000 in
set_option maxHeartbeats 2000000 in
theorem done_any {w : World} {r s q na nb : Nat} {va vb : Value} {Ow Dn : List Int} (h : RPool w r s q va vb na nb Ow Dn) (hm : nb ≤ 1000) (n : Int) :
    Calls Try.prog 41 #[.pointer (some ⟨r, 0, none⟩), .int .i64 n] w fun e w' => e = .returned (.bool (decide (n ∈ Dn))) ∧ w = w' := by
  obtain ⟨A, cap, rfl⟩ := own_form h.rb
  have HA := Lib.hid (row_at h.rb)
  have c3 := h.blk.cell 3 _ rfl
  have HL := Lib.hid h.lb
  clear h
  go_enter Try.func41, Try.ntmps41
  go_wp2_with fail
  go_loopg [5] nb (fun g s5 wr => ∃ j : Nat, j + g = nb ∧ s5 = .int .i64 j ∧ Hid (n ∉ Dn.take j) ∧ wr = w)
  case atStart => exact ⟨0, by omega, rfl, Lib.hid (by simp), rfl⟩
  case round =>
    obtain ⟨j, hj, rfl, HN, rfl⟩ := hrel
    cases gk with
    | zero =>
      obtain rfl : j = nb := by omega
      have hlt : ¬ ((j : Int) < (j : Int)) := by omega
      have hf : decide (n ∈ Dn) = false := by
        have := HN.out
        rw [List.take_of_length_le (by have := HL.out; omega)] at this
        simpa using this
      replace hf := Lib.hid hf
      go_wp2_with fail
      go_ret
      exact ⟨by rw [hf.out]; rfl, rfl⟩
    | succ g1 =>
      have p0 : (0 : Int) ≤ (j : Int) := by omega
      have p1 : (j : Int) < (nb : Int) := by omega
      obtain ⟨gz, rfl, hgz, hat⟩ : ∃ gz, A = some ⟨gz, 0, none⟩ ∧ gz < wr.heap.size ∧ ∀ j z, j < nb → Dn[j]? = some z → wr.cell? ⟨gz, j, none⟩ = some (.int .i64 z) := by
        rcases HA.out with e | e
        · omega
        · exact e
      obtain ⟨z, ez⟩ : ∃ z, Dn[j]? = some z := ⟨_, List.getElem?_eq_getElem (by have := HL.out; omega)⟩
      have a0 := hat j z (by omega) ez
      by_cases e : z = n
      · have hf : decide (n ∈ Dn) = true := by rw [← e]; simpa using List.mem_of_getElem? ez
        have t0 : (z == n) = true := by simpa using e
        replace hf := Lib.hid hf
        clear hat ez e
        go_wp2_with fail
        go_ret
        exact ⟨by rw [hf.out]; rfl, rfl⟩
      · have t0 : (z == n) = false := by simpa using e
        have HN2 := Lib.hid (show n ∉ Dn.take (j + 1) from by
          rw [List.take_add_one, ez]
          have e2 : ¬ n = z := fun h => e h.symm
          simpa [e2] using HN.out)
        clear hat ez e
        go_wp2_with fail
        go_roundg g1
        case measure => omega
        case rel => exact ⟨j + 1, by omega, by go_num, HN2, rfl⟩
set_option maxRecDepth 100000 in
set_option maxHeartbeats 2000000 in
theorem having_any {w : World} {r s q na nb : Nat} {va vb : Value} {Ow Dn : List Int} (h : RPool w r s q va vb na nb Ow Dn) (hm : na ≤ 256) (n : Int) :
    Calls Try.prog 37 #[.pointer (some ⟨r, 0, none⟩), .int .i64 n] w fun e w' => e = .returned (.agg (vs .u64 (Mk.ofL (hv Ow n na)))) ∧ Below w.heap.size w w' := by
  obtain ⟨A, cap, rfl⟩ := own_form h.ra
  have HA := Lib.hid (row_at h.ra)
  have HB := Lib.hid h.blk
  have HL := Lib.hid h.la
  have hr := h.blk.lt
  clear h
  obtain ⟨i0, hi, hz0, hz1, hz2⟩ := info_parts info3
  go_enter Try.func37, Try.ntmps37
  go_wp2_with fail
  go_loopg [5, 6] na (fun g s5 s6 wr => ∃ j k : Nat, j + g = na ∧ k ≤ j ∧ s6 = .int .i64 j ∧ wr.ownsRow (w.heap.size + 1) 3 1 s5 k (nv (hv Ow n j)) ∧ Hid ((hv Ow n j).length = k) ∧ Row .u64 35 wr w.heap.size Mk.zero ∧ Below w.heap.size w wr)
  case atStart => exact ⟨0, 0, by omega, Nat.le_refl _, rfl, World.ownsRow_nil _ _ _ _, Lib.hid rfl, Row.new w .u64 35 Mk.zero _ rfl, (Below.refl _ _).alloc (Nat.le_refl _) _⟩
  case round =>
    obtain ⟨j, k, hj, hkj, rfl, hrow, HK, r0, hb⟩ := hrel
    obtain ⟨A2, cap2, rfl⟩ := own_form hrow
    have c2 := ((HB.out.below hb hr)).cell 2 _ rfl
    have hsz := hb.size
    have hl1 := r0.lt
    cases gk with
    | zero =>
      obtain rfl : j = na := by omega
      have hlt : ¬ ((j : Int) < (j : Int)) := by omega
      have KM := Lib.hid (make_any A2 cap2 k (hv Ow n j) wr (nats_nv HK.out hrow) HK.out (by omega))
      rw [wds_ofL (hv_lt hm)] at KM
      have hz := Lib.hid (info40 Mk.W4.zero.1)
      have hw4 := Lib.hid (Mk.ofL_W4 (hv_lt (Ow := Ow) (n := n) hm))
      obtain ⟨m, hme⟩ : ∃ m, Mk.ofL (hv Ow n j) = m := ⟨_, rfl⟩
      rw [hme] at KM hw4
      replace hme := Lib.hid hme
      have hlen := Lib.hid (zero_len hw4.out)
      have hz' := Lib.hid (info40 hw4.out.1)
      go_wp2_with fail
      refine KM.out.mono ?_
      rintro _ w5 ⟨rfl, hb5⟩
      replace r0 := r0.next hb5
      replace hb := bmore hb hb5
      clear hb5 c2 hrow KM
      go_wp2_with (refine store_law rfl 35 _ _ rfl w.heap.size .u64 Mk.zero m rfl rfl 35 r0 hlen.out hz'.out ?_; intro w7 hw7)
      exact bodyPost_ret (results_row rfl _ _ w.heap.size .u64 35 _ _ rfl (r0.hidSet hw7) Try.underlying35 rfl hz'.out) rfl ⟨by rw [hme.out], below_hidSet hb hw7 (by omega)⟩
    | succ g1 =>
      have p0 : (0 : Int) ≤ (j : Int) := by omega
      have p1 : (j : Int) < (na : Int) := by omega
      obtain ⟨gz, rfl, hgz, hat⟩ : ∃ gz, A = some ⟨gz, 0, none⟩ ∧ gz < w.heap.size ∧ ∀ j z, j < na → Ow[j]? = some z → w.cell? ⟨gz, j, none⟩ = some (.int .i64 z) := by
        rcases HA.out with e | e
        · omega
        · exact e
      obtain ⟨z, ez⟩ : ∃ z, Ow[j]? = some z := ⟨_, List.getElem?_eq_getElem (by have := HL.out; omega)⟩
      have a0 := (hb.cell (p := ⟨gz, j, none⟩) hgz).trans (hat j z (by omega) ez)
      have HS := hv_snoc Ow n z j ez
      by_cases e : z = n
      · have t0 : (z == n) = true := by simpa using e
        rw [if_pos e] at HS
        replace HS := Lib.hid HS
        clear hat ez e
        go_wp2_with (at_builtin; refine wpList_append_own _ rfl _ _ 44 rfl (w.heap.size + 1) 3 i0 (.int .i64 0) 1 8 Try.underlying44 hi hz0 hz1 hz2 rfl (by decide) _ _ _ rfl (hrow.alloc _) ⟨wr.heap.size, 0, none⟩ 1 1 [.int .i64 (j : Int)] rfl rfl (cell_one_new _ _ _) (by simp [Value.oneCell']) (by unfold maxLen; omega) (by omega) (by simp; omega) ?_; intro v' w1 hown' hgrow _; obtain ⟨g', cap', rfl⟩ := ownsRow_succ hown'; have hb1 := appended_below hrow (by omega) hgrow)
        go_roundg g1
        case measure => omega
        case rel => exact ⟨j + 1, k + 1, by omega, by omega, by go_num, by rw [HS.out, nv_snoc]; exact hown', Lib.hid (by rw [HS.out, List.length_append, HK.out]; rfl), r0.below hb1 (by omega), hb.trans (hb1.mono (by omega))⟩
      · have t0 : (z == n) = false := by simpa using e
        rw [if_neg e] at HS
        replace HS := Lib.hid HS
        clear hat ez e
        go_wp2_with fail
        go_roundg g1
        case measure => omega
        case rel => exact ⟨j + 1, k, by omega, by omega, by go_num, by rw [HS.out]; exact hrow, by rw [HS.out]; exact HK, r0, hb⟩
end Go.Proofs.Ythmlibapjhmdbaa
