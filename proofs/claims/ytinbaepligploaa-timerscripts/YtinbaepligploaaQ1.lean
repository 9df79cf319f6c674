/- The queue in memory; cmp's Compare and Or; Less, Swap. -/
import Derived.Test.YtinbaepligploaaA3
import Derived.Test.YtinbaepligploaaQ0
import Derived.Handy
import Derived.Laws.AppendOwn
import Derived.Laws.OwnMore
import Derived.Deep.Onto
namespace Go.Proofs.Ytinbaepligploaa
open Go.RowKit Go.Shelf

/-- Deadlines, one behind the other. -/
def dRow (L : List Dl) : List Value := L.flatMap fun d => [.int .i64 d.1, .int .i64 d.2]
theorem flat_at {α : Type} (f : α → List Value) (m : Nat) (hf : ∀ a, (f a).length = m) : ∀ (l : List α) (k : Nat) (a : α) (i : Nat), l[k]? = some a → i < m → (l.flatMap f)[k * m + i]? = (f a)[i]?
  | [], k, a, i, h, _ => by simp at h
  | b :: r, 0, a, i, h, hi => by
    simp at h
    subst h
    rw [List.flatMap_cons, Nat.zero_mul, Nat.zero_add, List.getElem?_append_left (by rw [hf]; exact hi)]
  | b :: r, k + 1, a, i, h, hi => by
    have h' : r[k]? = some a := by simpa using h
    rw [List.flatMap_cons, List.getElem?_append_right (by rw [hf, Nat.add_mul]; omega), hf]
    rw [show (k + 1) * m + i - m = k * m + i by rw [Nat.add_mul]; omega]
    exact flat_at f m hf r k a i h' hi
theorem flat_len {α : Type} (f : α → List Value) (m : Nat) (hf : ∀ a, (f a).length = m) : ∀ l : List α, (l.flatMap f).length = l.length * m
  | [] => by simp
  | b :: r => by rw [List.flatMap_cons, List.length_append, hf, flat_len f m hf r, List.length_cons, Nat.add_mul]; omega
theorem dRow_len (L : List Dl) : (dRow L).length = L.length * 2 := flat_len _ 2 (fun _ => rfl) L
theorem dRow_at {L : List Dl} {k : Nat} (hk : k < L.length) : (dRow L)[k * 2]? = some (.int .i64 (nt L k).1) ∧ (dRow L)[k * 2 + 1]? = some (.int .i64 (nt L k).2) :=
  ⟨flat_at _ 2 (fun _ => rfl) L k (nt L k) 0 (nt_get hk) (by omega), flat_at _ 2 (fun _ => rfl) L k (nt L k) 1 (nt_get hk) (by omega)⟩

/-- The deadlines of a slice value. -/
abbrev Row (V : World) (p : Nat) (v : Value) (L : List Dl) : Prop := V.ownsRow (p + 1) 77 2 v L.length (dRow L)
/-- A queue: its block, its slice, its deadlines as they stand. -/
structure QAt (V : World) (p : Nat) (v : Value) (L : List Dl) : Prop where
  blk : Bk V p 74 #[v]
  row : Row V p v L
/-- What may have turned: the queue's own block, and deadlines behind it. -/
structure Tr (p : Nat) (V V' : World) : Prop where
  os : V'.os = V.os
  tape : V'.tape = V.tape
  output : V'.output = V.output
  size : V.heap.size ≤ V'.heap.size
  block : ∀ i, i < V.heap.size → (i < p ∨ (i ≠ p ∧ ∀ cur, V.heap[i]? ≠ some (.cells cur 77 (0, 0)))) → V'.heap[i]? = V.heap[i]?
section
variable {V V' V'' : World} {p g : Nat} {v : Value} {L : List Dl}
theorem Tr.refl (p : Nat) (V : World) : Tr p V V := ⟨rfl, rfl, rfl, Nat.le_refl _, fun _ _ _ => rfl⟩
theorem Tr.trans (h : Tr p V V') (k : Tr p V' V'') : Tr p V V'' := ⟨k.os.trans h.os, k.tape.trans h.tape, k.output.trans h.output, Nat.le_trans h.size k.size, fun i hi hc => by
  have e := h.block i hi hc
  refine (k.block i (Nat.lt_of_lt_of_le hi h.size) ?_).trans e
  rcases hc with hc | ⟨hc, hd⟩
  · exact .inl hc
  · exact .inr ⟨hc, by rw [e]; exact hd⟩⟩
theorem Tr.of_below (h : Below V.heap.size V V') : Tr p V V' := ⟨h.os, h.tape, h.output, h.size, fun i hi _ => h.block i hi⟩
theorem Tr.of_grown (h : V.grownBy V' (some p)) : Tr p V V' := ⟨h.os, h.tape, h.output, h.size, fun i hi hc => h.block i hi (fun e => by injection e with e; rcases hc with hc | hc; omega; exact hc.1 e)⟩
theorem Tr.of_row (h : V.grownBy V' v.ownBlock) (hr : Row V p v L) : Tr p V V' := ⟨h.os, h.tape, h.output, h.size, fun i hi hc => h.block i hi (fun e => by
  rcases hr.2 with ⟨rfl, _⟩ | ⟨g, cap, cur, rfl, hb, hg, _⟩
  · cases e
  · have e' : i = g := by simpa [Value.ownBlock] using e
    subst e'
    rcases hc with hc | hc
    · omega
    · exact hc.2 cur hg)⟩
theorem Tr.below (h : Tr p V V') (hp : p ≤ V.heap.size) : Below p V V' := ⟨h.os, h.tape, h.output, h.size, fun i hi => h.block i (by omega) (.inl hi)⟩
theorem Tr.bk {x t : Nat} {cs : Array Value} (h : Tr p V V') (hb : Bk V x t cs) (hx : x ≠ p) (ht : t ≠ 77) : Bk V' x t cs :=
  (h.block x hb.lt (.inr ⟨hx, fun cur e => by rw [show V.heap[x]? = _ from hb] at e; injection e with e; injection e with _ e; exact ht e⟩)).trans hb
theorem QAt.next (h : QAt V p v L) (hb : Below V.heap.size V V') : QAt V' p v L := ⟨h.blk.next hb, own_next h.row hb⟩
theorem QAt.lt (h : QAt V p v L) : p < V.heap.size := h.blk.lt
/-- The k-th. -/
theorem row_at (h : Row V p v L) {k : Nat} (hk : k < L.length) : ∃ g cap, v = .slice (some ⟨g, 0, none⟩) L.length cap ∧ p < g ∧ V.cell? ⟨g, k * 2, none⟩ = some (.int .i64 (nt L k).1) ∧ V.cell? ⟨g, k * 2 + 1, none⟩ = some (.int .i64 (nt L k).2) ∧ (∀ i, V.frozen? ⟨g, i, none⟩ = false) ∧ L.length ≤ cap ∧ cap ≤ maxLen := by
  rcases h.2 with ⟨_, h0⟩ | ⟨g, cap, cur, rfl, hb, hg, hc, hm, hs, ht⟩
  · omega
  · have hcell : ∀ j u, j < L.length * 2 → (dRow L)[j]? = some u → V.cell? ⟨g, j, none⟩ = some u := by
      intro j u hj hu
      rw [cell_of_row V g j cur 77 (0, 0) hg]
      rw [← ht, List.getElem?_take, if_pos hj] at hu
      simpa using hu
    obtain ⟨h1, h2⟩ := dRow_at hk
    exact ⟨g, cap, rfl, hb, hcell _ _ (by omega) h1, hcell _ _ (by omega) h2, fun i => frozen_of_row V g i cur 77 hg, hc, hm⟩
end

set_option maxRecDepth 100000 in
theorem isNaN_any (n : Int) (w : World) : Calls Try.prog 78 #[.int .i64 n] w fun x w' => x = .returned (.bool false) ∧ w = w' := by
  have t0 : (n != n) = false := by simp
  go_enter Try.func78, Try.ntmps78
  go_wp2_with fail
  go_ret
  exact ⟨rfl, rfl⟩
/-- Less, alike, more: -1, 0, 1. -/
def cmpI (a b : Int) : Int := if a < b then -1 else if b < a then 1 else 0
set_option maxRecDepth 100000 in
set_option maxHeartbeats 400000 in
theorem cmp_any (a b : Int) (w : World) : Calls Try.prog 77 #[.int .i64 a, .int .i64 b] w fun x w' => x = .returned (.int .i64 (cmpI a b)) ∧ w = w' := by
  go_enter Try.func77, Try.ntmps77
  go_wp2_with fail
  refine (isNaN_any _ _).mono ?_
  rintro x w1 ⟨rfl, rfl⟩
  go_wp2_with fail
  refine (isNaN_any _ _).mono ?_
  rintro x w1 ⟨rfl, rfl⟩
  by_cases h1 : a < b
  · have e := Lib.hid (show cmpI a b = -1 from if_pos h1)
    go_wp2_with fail
    go_ret
    exact ⟨by rw [e.out]; rfl, rfl⟩
  · by_cases h2 : b < a
    · have e := Lib.hid (show cmpI a b = 1 from by unfold cmpI; rw [if_neg h1, if_pos h2])
      go_wp2_with fail
      go_ret
      exact ⟨by rw [e.out]; rfl, rfl⟩
    · have e := Lib.hid (show cmpI a b = 0 from by unfold cmpI; rw [if_neg h1, if_neg h2])
      go_wp2_with fail
      go_ret
      exact ⟨by rw [e.out]; rfl, rfl⟩
def orI (a b : Int) : Int := if a = 0 then b else a
set_option maxRecDepth 100000 in
set_option maxHeartbeats 1000000 in
theorem or_any (a b : Int) (g : Nat) (w : World) (h : Bk w g 3 #[.int .i64 a, .int .i64 b]) : Calls Try.prog 76 #[.slice (some ⟨g, 0, none⟩) 2 2] w fun x w' => x = .returned (.int .i64 (orI a b)) ∧ w = w' := by
  have c0 := h.cell 0 _ rfl
  have c1 := h.cell 1 _ rfl
  by_cases h1 : a = 0
  · have t1 : (a != 0) = false := by simpa using h1
    by_cases h2 : b = 0
    · have t2 : (b != 0) = false := by simpa using h2
      have e := Lib.hid (show orI a b = 0 from by unfold orI; rw [if_pos h1, h2])
      clear h1 h2
      go_enter Try.func76, Try.ntmps76
      go_wp2_with fail
      go_rounds 3
      all_goals (first | (go_wp2_with fail; go_ret; exact ⟨by rw [e.out]; rfl, rfl⟩) | skip)
    · have t2 : (b != 0) = true := by simpa using h2
      have e := Lib.hid (show orI a b = b from by unfold orI; rw [if_pos h1])
      clear h1 h2
      go_enter Try.func76, Try.ntmps76
      go_wp2_with fail
      go_rounds 3
      all_goals (first | (go_wp2_with fail; go_ret; exact ⟨by rw [e.out]; rfl, rfl⟩) | skip)
  · have t1 : (a != 0) = true := by simpa using h1
    have e := Lib.hid (show orI a b = a from by unfold orI; rw [if_neg h1])
    clear h1
    go_enter Try.func76, Try.ntmps76
    go_wp2_with fail
    go_rounds 3
    all_goals (first | (go_wp2_with fail; go_ret; exact ⟨by rw [e.out]; rfl, rfl⟩) | skip)
theorem or_lt (a b : Dl) : decide (orI (cmpI a.2 b.2) (cmpI a.1 b.1) < 0) = decide (lt a b) := by
  unfold orI cmpI lt
  congr 1
  by_cases h1 : a.2 < b.2
  · simp [h1]
  · by_cases h2 : b.2 < a.2
    · simp [h1, h2]; omega
    · by_cases h3 : a.1 < b.1
      · simp [h1, h2, h3]; omega
      · by_cases h4 : b.1 < a.1
        · simp [h1, h2, h3, h4]
        · simp [h1, h2, h3, h4]
end Go.Proofs.Ytinbaepligploaa
