/- Slices as lists; the document's Same of two alike; the keys of a map, sorted. -/
import Derived.Test.YtjolkcomlindhaaB2
import Derived.Test.YtjolkcomlindhaaShelf
import Derived.RangeFuncNested
import Derived.RangeFuncBound
import Derived.RangeFuncCalls
import Derived.RangeFuncLeaves
import Derived.Shelf.Abstract
import Derived.Shelf.RegionOpen
import Derived.OwnWalkIn
import Derived.TacticsInMore
import Derived.LoopNIn
import Derived.LoopIn
import Derived.Maps.AppendAt
import Derived.Lib.SmallJoins
namespace Go.Proofs
open Go.RowKit Go.Maps Go.Sort Go.Shelf
/-- slices.Sort's two contracts at this dump. -/
theorem Try.sortsA (m : Nat) : AnyZI.SortsIn Try.prog Try.sortedA_ren Fence.wide m :=
  ⟨fun blk off cap ss W hH hblk hsz => callsIn_wide.2 (AnyM.slices_Sort_int Try.sortA blk off cap ss W hH hblk hsz),
   fun p cap W => callsIn_wide.2 (AnyM.slices_Sort_int_none Try.sortA p cap W)⟩
end Go.Proofs
namespace Go.Proofs.Ytjolkcomlindhaa
open Go.RowKit Go.Shelf Go.Maps Go.Sort

theorem info3 : (Try.prog.info? 3).map (fun i => (i.zero, i.size, i.bytes)) = some (some (.int .i64 0), 1, 8) := by kernel_rfl
/-- Numbers as values. -/
def iv (l : List Int) : List Value := l.map fun x => Value.int .i64 x
theorem iv_snoc (l : List Int) (x : Int) : iv (l ++ [x]) = iv l ++ [Value.int .i64 x] := by simp [iv]
theorem iv_len (l : List Int) : (iv l).length = l.length := by simp [iv]
theorem ints_iv {w : World} {base n cap : Nat} {xs : List Int} {A : Option Addr} (hn : xs.length = n) (h : w.ownsRow base 3 1 (.slice A n cap) n (iv xs)) : IntsAt w A xs := by
  rcases h.2 with ⟨h0, h1⟩ | ⟨g', cap', cur, h1, h2, h3, h4, h5, h6, h7⟩
  · subst h1; exact .inl (List.length_eq_zero_iff.1 hn)
  · cases h1
    refine .inr ⟨_, rfl, (Array.getElem?_eq_some_iff.1 h3).1, fun j hj => ?_⟩
    have hadd : (⟨g', 0, none⟩ : Addr).add j = ⟨g', j, none⟩ := by unfold Addr.add; split <;> simp_all
    rw [hadd, cell_of_row w g' j cur 3 (0, 0) h3]
    have e1 : cur[j]? = (iv xs)[j]? := by
      rw [← h7, List.getElem?_take, if_pos (by omega)]; simp
    rw [e1]
    simp [iv, List.getD, hj]
theorem own_form {w : World} {base size n : Nat} {e : TypeId} {v : Value} {xs : List Value} (h : w.ownsRow base e size v n xs) : ∃ A cap, v = .slice A n cap := by
  rcases Joins.ownsRow_forms h with ⟨rfl, rfl⟩ | ⟨g, cap, rfl⟩
  · exact ⟨none, 0, rfl⟩
  · exact ⟨_, cap, rfl⟩
theorem own_next {w w' : World} {base size n : Nat} {e : TypeId} {v : Value} {xs : List Value} (h : w.ownsRow base e size v n xs) (hb : Below w.heap.size w w') : w'.ownsRow base e size v n xs := by
  refine ⟨h.1, ?_⟩
  rcases h.2 with h0 | ⟨g, cap, cur, h1, h2, h3, h4⟩
  · exact .inl h0
  · exact .inr ⟨g, cap, cur, h1, h2, (hb.block g (Array.getElem?_eq_some_iff.1 h3).1).trans h3, h4⟩
/-- Behind an append onto a slice of its own: what lies below is as it was. -/
theorem appended_below {W w1 : World} {n₀ : Nat} {e : TypeId} {size : Nat} {v : Value} {k : Nat} {xs : List Value} {tmp : Obj} (hrow : W.ownsRow n₀ e size v k xs) (hn₀ : n₀ ≤ W.heap.size) (hgrow : (W.alloc tmp).grownBy w1 v.ownBlock) : Below n₀ W w1 := by
  refine ((Below.refl n₀ W).alloc hn₀ tmp).grown hgrow (by simp; omega) fun j ej => ?_
  rcases hrow.2 with ⟨rfl, _⟩ | ⟨g, cap, cur, rfl, hb, _, _⟩
  · simp [Value.ownBlock] at ej
  · obtain rfl : g = j := by simpa [Value.ownBlock] using ej
    exact hb


theorem below_drewN' {B : Nat} {a w : World} (h : Below B a w) (n : Nat) : Below B a (w.drewN n) := ⟨h.os, h.tape, h.output, h.size, h.block⟩
set_option maxRecDepth 100000 in
set_option maxHeartbeats 400000 in
theorem same_eq (A A' : Option Addr) (ca cb n : Nat) (zs : List Int) (w : World) (hA : IntsAt w A zs) (hB : IntsAt w A' zs) (hn : zs.length = n) (hl : n ≤ maxLen) :
    Calls Try.prog 29 #[.slice A n ca, .slice A' n cb] w fun e w' => e = .returned (.bool true) ∧ Below w.heap.size w w' := by
  have HN := Lib.hid hn
  clear hn
  unfold maxLen at hl
  go_enter Try.func29, Try.ntmps29
  go_wp2_with fail
  go_loopw [5] (fun i wr => ∃ k : Nat, k ≤ n ∧ i = .int .i64 k ∧ Below w.heap.size w wr)
    (fun i _ => n - (intOf i).toNat)
  case atStart => exact ⟨0, Nat.zero_le _, rfl, Below.refl _ _⟩
  case round =>
    obtain ⟨k, hk, rfl, hb⟩ := hrel
    by_cases hlt : k < n
    · obtain ⟨ad, rfl, h1, h2⟩ := (hA.next hb).at_ (k := k) (by rw [HN.out]; exact hlt)
      obtain ⟨ad', rfl, h3, h4⟩ := (hB.next hb).at_ (k := k) (by rw [HN.out]; exact hlt)
      generalize zs.getD k 0 = z at *
      have i0 : (0 : Int) ≤ (k : Int) := by omega
      have i1 : (k : Int) < (n : Int) := by omega
      go_wp2_with fail
      go_quiet (fail)
      go_wp2_with fail
      go_roundw
      case rel => exact ⟨k + 1, by omega, by go_num, below_drewN' hb _⟩
      case measure => simp [intOf]; omega
    · obtain rfl : k = n := by omega
      go_wp2_with fail
      go_ret
      exact ⟨rfl, hb⟩

theorem size_keys {D : DataW Unit} (h : IsMap D) : Maps.size D = (intKeys D).length := by
  obtain ⟨es, rfl⟩ := h
  simp [Maps.size, intKeys]
/-- A map's keys, as a rising list. -/
theorem keys_perm {α : Type} {rd : α → DataW Unit} {w : World} {b k : Nat} {D : DataW Unit} {R : Value → Option (DataW Unit × List MemPlace)} {g : Int → Option α} (hown : w.ownsMap Try.prog 3 R b k D) (hs : Says D rd g) (L : List Int) (hL : L.Pairwise (· < ·)) (hin : ∀ n, n ∈ L ↔ (g n).isSome = true) : L.Perm (intKeys D) := by
  have hnd : L.Nodup := hL.imp (fun hlt => by omega)
  obtain ⟨es, hD, hpw, _⟩ := hown.entries law3
  obtain ⟨es', hD', hko⟩ := hown.keysOf
  obtain rfl : es = es' := by rw [hD] at hD'; simpa using hD'
  subst hD
  exact perm_intKeys hpw (fun p hp => by obtain ⟨v, hv⟩ := hko p hp; obtain ⟨x, _, hx, _⟩ := Maps.keyOf_i64 Try.underlying3 hv; exact ⟨x, hx⟩) hnd (fun x => by rw [hin, ← hs.has])
theorem sort_perm {L ss : List Int} (hL : L.Pairwise (· < ·)) (h : ss.Perm L) : ss.mergeSort (fun x y => decide (x ≤ y)) = L := by
  have e1 : ss.mergeSort leI = L.mergeSort leI := mergeSort_of_perm_i h
  have e2 : L.mergeSort leI = L := List.mergeSort_of_pairwise (hL.imp (fun hlt => by simp only [leI, decide_eq_true_eq]; omega))
  exact e1.trans e2
/-- What slices.Sorted(maps.Keys(m)) gives: the keys, rising, in memory of their own. -/
def Keys (w : World) (L : List Int) (e : Ending) (w' : World) : Prop := ∃ v, e = .returned v ∧ w'.ownsRow w.heap.size 3 1 v L.length (iv L) ∧ Below w.heap.size w w'
theorem keysA_in (n : Nat) (mb : Option Nat) (W : World) : CallsIn Fence.wide n Try.prog 61 #[.map mb] W fun e w' => e = .returned (.func (.func 70) #[] #[.pointer (some ⟨W.heap.size, 0, none⟩)]) ∧ w' = W.alloc (.cells #[.map mb] 76) := AnyZI.keys_in Try.keysA Fence.wide n trivial rfl mb W
theorem keysB_in (n : Nat) (mb : Option Nat) (W : World) : CallsIn Fence.wide n Try.prog 55 #[.map mb] W fun e w' => e = .returned (.func (.func 66) #[] #[.pointer (some ⟨W.heap.size, 0, none⟩)]) ∧ w' = W.alloc (.cells #[.map mb] 83) := AnyZI.keys_in Try.keysB Fence.wide n trivial rfl mb W
section
variable {α : Type} {rd : α → DataW Unit} {w : World} {b k : Nat} {D : DataW Unit} {R : Value → Option (DataW Unit × List MemPlace)} {g : Int → Option α}
theorem sortedOf (fid : Nat) (hen : ∀ args w, (callFunc fid args).run Try.prog w = .ok (.enter fid args) w) (n : Nat) (hn : 5 ≤ n) (V : World) (lb : Array Value) (L : List Int) (hL : L.Pairwise (· < ·)) (_ : L.length ≤ 1000000) (S : List Int → Prop) (hS : ∀ ss, S ss → ss.Perm L) (N : Nat) (hN : N ≤ 1000000)
    (hseq : SeqGives Fence.wide (n - 1 - 1 - 1) Try.prog fid lb encZ S N V) : CallsIn Fence.wide n Try.prog 54 #[.func (.func fid) #[] lb] V (Keys V L) := by
  have cS := AnyZI.sorted_in Try.sortedA Fence.wide n trivial trivial trivial trivial rfl (by omega) (Try.sortsA _) (enters_of Try.func65 (by kernel_rfl) rfl) fid lb trivial hen S N (by unfold maxLen; omega) (by omega) _ hseq
  refine cS.mono ?_
  rintro e w' ⟨v, ss, rfl, hS', hrow, hnil, hb⟩
  have hp := hS ss hS'
  have hrow' : w'.ownsRow V.heap.size 3 1 v ss.length ((ss.mergeSort (fun x y => decide (x ≤ y))).map encZ) := hrow
  rw [sort_perm hL hp, hp.length_eq] at hrow'
  exact ⟨v, rfl, hrow', hb⟩
end
end Go.Proofs.Ytjolkcomlindhaa
