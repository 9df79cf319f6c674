/- each: the cores of a mask, rising. -/
import Derived.Test.YthmlibapjhmdbaaDoorW9
import Derived.Test.YthmlibapjhmdbaaDoorRf
import Derived.Shelf.Abstract
import Derived.OwnWalkIn
import Derived.TacticsInMore
import Derived.LoopNIn
import Derived.LoopIn
import Derived.Maps.AppendAt
namespace Go.Proofs.YthmlibapjhmdbaaDoor
open Go.RowKit Go.Shelf

attribute [local go_sem] Oper.semAt_some

/-- A core. -/
abbrev Core := { c : Nat // c < 256 }
def mkC (n : Nat) : Core := if h : n < 256 then ⟨n, h⟩ else ⟨0, by decide⟩
theorem mkC_val {n : Nat} (h : n < 256) : (mkC n).1 = n := by simp [mkC, h]
theorem only_of_below {a w : World} (h : Below a.heap.size a w) : a.grownBy w none := ⟨h.os, h.tape, h.output, h.size, fun i hi _ => h.block i hi⟩
/-- The cores of a mask that are less than c. -/
def lc (m : List Nat) (c : Nat) : List Core := ((List.range c).filter (Mk.hasB m)).map mkC
theorem lc_zero (m : List Nat) : lc m 0 = [] := rfl
theorem lc_hit {m : List Nat} {c : Nat} (h : Mk.hasB m c = true) : lc m (c + 1) = lc m c ++ [mkC c] := by
  unfold lc
  rw [List.range_succ, List.filter_append, List.map_append]
  simp [h]
theorem lc_miss {m : List Nat} {c : Nat} (h : Mk.hasB m c = false) : lc m (c + 1) = lc m c := by
  unfold lc
  rw [List.range_succ, List.filter_append, List.map_append]
  simp [h]
theorem lc_len (m : List Nat) (c : Nat) : (lc m c).length ≤ c := by
  unfold lc
  rw [List.length_map]
  exact Nat.le_trans (List.length_filter_le _ _) (by simp)
theorem lc_same {m : List Nat} {c : Nat} : ∀ n, (∀ d, c ≤ d → d < c + n → Mk.hasB m d = false) → lc m (c + n) = lc m c
  | 0, _ => rfl
  | n + 1, h => by
    rw [← Nat.add_assoc, lc_miss (h (c + n) (by omega) (by omega))]
    exact lc_same n fun d h1 h2 => h d h1 (by omega)
theorem has_word (m : List Nat) {k t : Nat} (ht : t < 64) : Mk.hasB m (64 * k + t) = (Mk.nth m k).testBit t := by
  unfold Mk.hasB
  rw [show (64 * k + t) / 64 = k by omega, show (64 * k + t) % 64 = t by omega]
/-- One step of the inner loop, as plain facts. -/
structure Step (m : List Nat) (k t x j y : Nat) : Prop where
  lt : j < 64
  skip : lc m (64 * k + j) = lc m (64 * k + t)
  hit : lc m (64 * k + (j + 1)) = lc m (64 * k + t) ++ [mkC (64 * k + j)]
  next : y = Mk.hi (Mk.nth m k) (j + 1)
  less : y < x
  and_ : bits .and .u64 (x : Int) ((x : Int) - 1) = (y : Int)
theorem step_of {m : List Nat} (hm : Mk.W4 m) {k t x : Nat} (hx : x = Mk.hi (Mk.nth m k) t) (h0 : x ≠ 0) : Step m k t x (Mk.tzr 64 x) (x &&& (x - 1)) := by
  subst hx
  obtain ⟨h1, h2, h3, h4, h5, _⟩ := Mk.hi_step (hm.2 k) h0
  have hl := Nat.lt_of_le_of_lt (Mk.hi_le (Mk.nth m k) t) (hm.2 k)
  have hs : lc m (64 * k + Mk.tzr 64 (Mk.hi (Mk.nth m k) t)) = lc m (64 * k + t) := by
    rw [show 64 * k + Mk.tzr 64 (Mk.hi (Mk.nth m k) t) = 64 * k + t + (Mk.tzr 64 (Mk.hi (Mk.nth m k) t) - t) by omega]
    refine lc_same _ fun d d1 d2 => ?_
    obtain ⟨b, rfl⟩ : ∃ b, d = 64 * k + b := ⟨d - 64 * k, by omega⟩
    rw [has_word m (by omega)]
    exact h4 b (by omega) (by omega)
  refine ⟨h2, hs, ?_, h5, ?_, ?_⟩
  · rw [← Nat.add_assoc, lc_hit (by rw [has_word m h2]; exact h3), hs]
  · exact Nat.lt_of_le_of_lt Nat.and_le_right (by omega)
  · generalize Mk.hi (Mk.nth m k) t = x at *
    rw [show (x : Int) - 1 = ((x - 1 : Nat) : Int) by omega]
    exact u64_and_nat _ _ hl (Nat.lt_of_le_of_lt (Nat.sub_le _ _) hl)
theorem step_end {m : List Nat} {k t : Nat} (ht : t ≤ 64) (h0 : Mk.hi (Mk.nth m k) t = 0) : lc m (64 * (k + 1)) = lc m (64 * k + t) := by
  rw [show 64 * (k + 1) = 64 * k + t + (64 - t) by omega]
  refine lc_same _ fun d d1 d2 => ?_
  obtain ⟨b, rfl⟩ : ∃ b, d = 64 * k + b := ⟨d - 64 * k, by omega⟩
  rw [has_word m (by omega)]
  exact Mk.hi_none h0 b (by omega)

set_option maxRecDepth 100000 in
set_option maxHeartbeats 1000000 in
theorem each_stops (n n₀ a b c e : Nat) (hn : 1 ≤ n) (w : World) (hm : Mk.W4 [a, b, c, e]) (G : Glob w) (_hn₀ : n₀ ≤ w.heap.size) (h5 : 6 ≤ n₀) :
    BoundSeq Fence.wide n Tryd.prog 39 #[.agg #[.int .u64 a, .int .u64 b, .int .u64 c, .int .u64 e]] (fun x : Core => #[Value.int .i64 (x.1 : Nat)]) (Below n₀) (fun ys => ys = lc [a, b, c, e] 256) (fun pre => ∃ k, k ≤ 256 ∧ pre = lc [a, b, c, e] k) 256 w := fun l J Jx W hW hJ _ hY h0 => by
  have HM := Lib.hid hm
  clear hm
  have GW := G.next hW
  clear G
  have hb1 : Below W.heap.size W (W.alloc (.cells #[.int .u64 a, .int .u64 b, .int .u64 c, .int .u64 e] 27)) := (Below.refl _ _).alloc (Nat.le_refl _) _
  have h01 := hJ [] W _ none h0 (only_of_below hb1) (fun r hr => by cases hr)
  have G1 := GW.next hb1
  clear h0 GW hb1
  refine callsIn_of_wp Tryd.func39 rfl trivial ?_ rfl
  simp only [Tryd.ntmps39, List.size_toArray, List.length_cons, List.length_nil, Nat.reduceAdd, Nat.reduceSub, Array.replicate_succ, Array.replicate_zero, List.push_toArray, List.append_toArray, List.nil_append, List.cons_append]
  gi_wp2_with fail
  generalize W.alloc (.cells #[.int .u64 a, .int .u64 b, .int .u64 c, .int .u64 e] 27) = W1 at *
  gi_loopw [7] (fun i wr => ∃ k : Nat, k ≤ 4 ∧ i = .int .i64 k ∧ J (lc [a, b, c, e] (64 * k)) wr ∧ Glob wr)
    (fun i _ => 4 - (intOf i).toNat)
  case atStart => exact ⟨0, by omega, rfl, h01, G1⟩
  case round =>
    clear h01 G1
    obtain ⟨k, hk, rfl, hJk, Gk⟩ := hrel
    by_cases hlt : k < 4
    · have vi : ∀ V, (Instr.index 27 (.agg #[.int .u64 a, .int .u64 b, .int .u64 c, .int .u64 e]) (.int .i64 (k : Int))).run Tryd.prog V = .ok (.int .u64 (Mk.nth [a, b, c, e] k : Nat)) V := fun V => run_index33 (l := [a, b, c, e]) rfl hlt V
      have i0 : (0 : Int) ≤ (k : Int) := by omega
      have i1 : (k : Int) < 4 := by omega
      gi_wp2_with fail
      clear vi
      gi_loopw [5] (fun x wr => ∃ t y : Nat, t ≤ 64 ∧ y = Mk.hi (Mk.nth [a, b, c, e] k) t ∧ x = .int .u64 y ∧ J (lc [a, b, c, e] (64 * k + t)) wr ∧ Glob wr)
        (fun x _ => (intOf x).toNat)
      case atStart => exact ⟨0, _, by omega, (Mk.hi_zero _).symm, rfl, hJk, Gk⟩
      case round =>
        clear hJk Gk
        obtain ⟨t, x, ht, hx, rfl, hJt, Gt⟩ := hrel
        by_cases hx0 : x = 0
        · subst hx0
          have HE := Lib.hid (step_end (m := [a, b, c, e]) ht hx.symm)
          clear hx
          gi_wp2_with fail
          go_roundw
          case rel => exact ⟨k + 1, by omega, by go_num, by rw [HE.out]; exact hJt, Gt⟩
          case measure => simp [intOf]; omega
        · have hs := step_of HM.out hx hx0
          have hxl : x < 2 ^ 64 := by rw [hx]; exact Nat.lt_of_le_of_lt (Mk.hi_le _ _) (HM.out.2 k)
          have HT := Lib.hid (tz_any x wr Gt hx0 hxl)
          have b0 : ((x : Int) != 0) = true := by simp; omega
          have b1 : (x != 0) = true := by simp; omega
          have e0 := hs.and_
          have e1 : IntKind.u64.wrap ((x : Int) - 1) = (x : Int) - 1 := by
            have : x < 18446744073709551616 := hxl
            rw [IntKind.wrap_u64]; omega
          have HX := Lib.hid hxl
          clear hxl hx
          generalize Mk.tzr 64 x = j at *
          generalize x &&& (x - 1) = y at *
          have HS := Lib.hid hs
          have hj := hs.lt
          clear hs
          have hjc : 64 * k + j < 256 := by omega
          obtain ⟨fn, tmps, assign, body, hy, hR⟩ := hY _ (mkC (64 * k + j)) wr hJt (by rw [← HS.out.skip]; exact Nat.lt_of_le_of_lt (lc_len _ _) hjc)
          have HI : Hid (((64 * k + j : Nat) : Int) = 64 * (k : Int) + j) := by show _ = _; simp
          rw [mkC_val hjc, HI.out] at hy
          gi_wp2_with fail
          refine ⟨trivial, (callsIn_wide.2 HT.out).mono ?_⟩
          rintro e2 W3 ⟨rfl, rfl⟩
          gi_wp2_with fail
          refine hR.mono ?_
          rintro e3 W4 (⟨rfl, hJ4, hk4⟩ | ⟨rfl, hJx4⟩)
          · gi_wp2_with fail
            go_roundw
            case rel => exact ⟨j + 1, y, by omega, HS.out.next, rfl, by rw [HS.out.hit]; exact hJ4, Gt.below hk4 h5⟩
            case measure => have := HS.out.less; simp [intOf]; omega
          · gi_wp2_with fail
            refine bodyPost_ret (results_none rfl _ _ _) rfl ?_
            exact ⟨⟨_, rfl⟩, .inr ⟨_, ⟨64 * k + (j + 1), by omega, HS.out.hit.symm⟩, hJx4⟩⟩
    · obtain rfl : k = 4 := by omega
      gi_wp2_with fail
      go_end0
      exact ⟨⟨_, rfl⟩, .inl ⟨_, rfl, hJk⟩⟩
end Go.Proofs.YthmlibapjhmdbaaDoor
