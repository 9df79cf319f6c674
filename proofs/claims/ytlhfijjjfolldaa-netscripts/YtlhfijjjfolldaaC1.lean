/- The document's net: place, Take, Drop. -/
import Derived.Test.YtlhfijjjfolldaaB4
namespace Go.Proofs.Ytlhfijjjfolldaa
open Go.RowKit Go.Maps

/-- The document's net in memory. -/
structure Rt (w : World) (r : Nat) (m : Int) (A : Option Addr) (cap : Nat) (l : List Str) (k : Int) : Prop where
  blk : Bk w r 36 #[.int .i64 m, .slice A l.length cap, .int .i64 k]
  at_ : StrsAt w A l
  lt : ∀ ad, A = some ad → ad.block < w.heap.size
  bk : ∀ ad, A = some ad → ∃ cs, Bk w ad.block 9 cs
  no : A = none → cap = 0
  le : l.length ≤ cap
  fit : (l.length : Int) ≤ m
  m1 : 1 ≤ m
  m2 : m ≤ 1000
/-- What a call on it leaves: its struct alone has turned, its list is the same, or new. -/
structure Rn (w w' : World) (r : Nat) (A A' : Option Addr) : Prop where
  grown : w.grownBy w' (some r)
  nw : A' = A ∨ ∀ ad, A' = some ad → w.heap.size ≤ ad.block
section
variable {w w' w2 : World} {r cap cap' : Nat} {m k k' : Int} {A A' A2 : Option Addr} {l l' : List Str}
theorem Rt.next (h : Rt w r m A cap l k) (hb : Below w.heap.size w w') : Rt w' r m A cap l k :=
  ⟨h.blk.next hb, h.at_.next hb, fun ad e => Nat.lt_of_lt_of_le (h.lt ad e) hb.size, fun ad e => by obtain ⟨cs, q⟩ := h.bk ad e; exact ⟨cs, q.next hb⟩, h.no, h.le, h.fit, h.m1, h.m2⟩
theorem Rt.len (h : Rt w r m A cap l k) : l.length ≤ 1000 := by
  have h1 := h.fit
  have h2 := h.m2
  omega
theorem Rt.ne (h : Rt w r m A cap l k) {ad : Addr} (e : A = some ad) : ad.block ≠ r := by
  obtain ⟨cs, q⟩ := h.bk ad e
  exact bk_ne q h.blk (by decide)
theorem Rn.same (hb : Below w.heap.size w w') : Rn w w' r A A := ⟨⟨hb.os, hb.tape, hb.output, hb.size, fun i hi _ => hb.block i hi⟩, .inl rfl⟩
theorem Rn.trans (h : Rn w w' r A A') (k : Rn w' w2 r A' A2) : Rn w w2 r A A2 := by
  refine ⟨h.grown.trans k.grown, ?_⟩
  rcases k.nw with rfl | q
  · exact h.nw
  · exact .inr fun ad e => Nat.le_trans h.grown.size (q ad e)
/-- Its list laid anew. -/
theorem Rt.laid (h : Rt w r m A cap l k) {w1 : World} (hb : Below w.heap.size w w1) (hr : w1.ownsRow w.heap.size 9 1 (.slice A' l'.length cap') l'.length (sv l')) (hf : (l'.length : Int) ≤ m) :
    w1.cell? ⟨r, 1, none⟩ = some (.slice A l.length cap) ∧ w1.frozen? ⟨r, 1, none⟩ = false ∧ Rt (w1.setCell ⟨r, 1, none⟩ (.slice A' l'.length cap')) r m A' cap' l' k ∧ Rn w (w1.setCell ⟨r, 1, none⟩ (.slice A' l'.length cap')) r A A' := by
  have hk := h.blk.next hb
  have hlt := h.blk.lt
  have hnew : ∀ ad, A' = some ad → w.heap.size ≤ ad.block := own_new hr
  have hoth : ∀ b, b ≠ r → (w1.setCell ⟨r, 1, none⟩ (.slice A' l'.length cap')).heap[b]? = w1.heap[b]? := fun b hb => Below.heap_setCell _ _ _ _ hb
  have hsz : (w1.setCell ⟨r, 1, none⟩ (.slice A' l'.length cap')).heap.size = w1.heap.size := by simp [World.setCell]
  have hbk : ∀ ad, A' = some ad → ∃ cs, Bk w1 ad.block 9 cs := fun ad e => by
    subst e
    have hb2 : (Value.slice (some ad) l'.length cap').ownBlock = some ad.block := rfl
    exact (row_bk hr hb2).2
  refine ⟨hk.cell 1 _ rfl, hk.frozen 1, ⟨hk.set 1 _, (strs_row rfl hr).kept (by rw [hsz]; exact Nat.le_refl _) fun ad e _ => hoth _ (by have := hnew ad e; omega), fun ad e => ?_, fun ad e => ?_, fun e => ?_, ?_, hf, h.m1, h.m2⟩, ⟨?_, .inr hnew⟩⟩
  · rw [hsz]
    obtain ⟨cs, q⟩ := hbk ad e
    exact q.lt
  · obtain ⟨cs, q⟩ := hbk ad e
    exact ⟨cs, (hoth _ (by have := hnew ad e; omega)).trans q⟩
  · subst e
    rcases hr.2 with ⟨e, _⟩ | ⟨g, c, cu, e, _⟩
    · injection e
    · injection e with e
      cases e
  · rcases hr.2 with ⟨e, e0⟩ | ⟨g, c, cu, e, _, _, hc, _⟩
    · injection e with _ _ e2
      omega
    · injection e with _ _ e2
      omega
  · refine ⟨hb.os, hb.tape, hb.output, by rw [hsz]; exact hb.size, fun i hi hne => ?_⟩
    exact (hoth i (fun e => hne (by rw [e]))).trans (hb.block i hi)
theorem Rt.lost (h : Rt w r m A cap l k) (k' : Int) : Rt (w.setCell ⟨r, 2, none⟩ (.int .i64 k')) r m A cap l k' ∧ Rn w (w.setCell ⟨r, 2, none⟩ (.int .i64 k')) r A A := by
  have hoth : ∀ b, b ≠ r → (w.setCell ⟨r, 2, none⟩ (.int .i64 k')).heap[b]? = w.heap[b]? := fun b hb => Below.heap_setCell _ _ _ _ hb
  have hsz : (w.setCell ⟨r, 2, none⟩ (.int .i64 k')).heap.size = w.heap.size := by simp [World.setCell]
  refine ⟨⟨h.blk.set 2 (.int .i64 k'), h.at_.kept (by rw [hsz]; exact Nat.le_refl _) fun ad e _ => hoth _ (h.ne e), fun ad e => by rw [hsz]; exact h.lt ad e, fun ad e => ?_, h.no, h.le, h.fit, h.m1, h.m2⟩, ⟨⟨rfl, rfl, rfl, by rw [hsz]; exact Nat.le_refl _, fun i _ hne => hoth i (fun e => hne (by rw [e]))⟩, .inl rfl⟩⟩
  obtain ⟨cs, q⟩ := h.bk ad e
  exact ⟨cs, (hoth _ (h.ne e)).trans q⟩
end
theorem place2 (i : Int) (k : Nat) (hk : 0 < k) : Int.tmod (Int.tmod i (k : Int) + (k : Int)) (k : Int) = i % (k : Int) := by
  have e := emod_of_tmod i (k : Int) (by omega)
  have h1 : -(k : Int) < Int.tmod i k := Int.lt_tmod_of_pos i (by omega)
  have h2 : Int.tmod i k < k := Int.tmod_lt_of_pos i (by omega)
  rw [Int.tmod_eq_emod_of_nonneg (by omega), Int.add_emod_right]
  by_cases h : Int.tmod i k < 0
  · rw [e, if_pos h]
    have : Int.tmod i k = (Int.tmod i k + k) + (k : Int) * (-1) := by omega
    rw [this, Int.add_mul_emod_self_left, Int.emod_eq_of_lt (by omega) (by omega)]
    omega
  · rw [e, if_neg h, Int.emod_eq_of_lt (by omega) h2]
/-- What place tells. -/
def plR (l : List Str) (i : Int) : Int := if l.isEmpty then -1 else (plc l i : Int)
set_option maxRecDepth 100000 in
set_option maxHeartbeats 1000000 in
theorem rplace_any {w : World} {r cap : Nat} {m k : Int} {A : Option Addr} {l : List Str} (h : Rt w r m A cap l k) (i : Int) :
    Calls Try.prog 29 #[.pointer (some ⟨r, 0, none⟩), .int .i64 i] w fun e w' => e = .returned (.int .i64 (plR l i)) ∧ w = w' := by
  have c1 := h.blk.cell 1 _ rfl
  have hlen := h.len
  rcases hl : l with _ | ⟨y, t⟩
  · subst hl
    clear h
    go_enter Try.func29, Try.ntmps29
    go_wp2_with fail
    go_ret
    exact ⟨rfl, rfl⟩
  · rw [← hl]
    have hl0 : 0 < l.length := by rw [hl]; simp
    have hne : l.isEmpty = false := by rw [hl]; rfl
    have HP := Lib.hid (show plR l i = i % (l.length : Int) from by
      unfold plR
      rw [hne]
      exact (plc_cast hl0 i).1)
    have P2 := Lib.hid (place2 i l.length hl0)
    have h1 : -(l.length : Int) < Int.tmod i l.length := Int.lt_tmod_of_pos i (by omega)
    have h2 : Int.tmod i l.length < l.length := Int.tmod_lt_of_pos i (by omega)
    have h3 : ((l.length : Int) == 0) = false := by
      have : ¬ ((l.length : Int) = 0) := by omega
      simpa using this
    have h4 : (l.length : Int) ≠ 0 := by omega
    have h5 : 0 ≤ Int.tmod (Int.tmod i (l.length : Int) + (l.length : Int)) (l.length : Int) := by
      rw [P2.out]
      exact Int.emod_nonneg i h4
    have h6 : Int.tmod (Int.tmod i (l.length : Int) + (l.length : Int)) (l.length : Int) < l.length := by
      rw [P2.out]
      exact Int.emod_lt_of_pos i (by omega)
    clear h hl hne
    generalize l.length = n at *
    have P3 := P2.out
    rw [Int.tmod_eq_emod_of_nonneg (show 0 ≤ Int.tmod i n + n by omega)] at P3
    have P3' := Lib.hid P3
    have P4 := Lib.hid (show (i % (n : Int) + (n : Int)) % (n : Int) = i % (n : Int) from by rw [Int.add_emod_right, Int.emod_emod])
    clear P3
    go_enter Try.func29, Try.ntmps29
    go_wp2_with fail
    all_goals
      go_ret
      rw [HP.out]
      first
        | exact ⟨congrArg (fun z => Ending.returned (.int .i64 z)) P3'.out, rfl⟩
        | exact ⟨congrArg (fun z => Ending.returned (.int .i64 z)) P4.out, rfl⟩
end Go.Proofs.Ytlhfijjjfolldaa
