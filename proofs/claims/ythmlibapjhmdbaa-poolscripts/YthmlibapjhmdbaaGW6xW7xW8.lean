/- block, cyclic, distributionOf. -/
import Derived.Test.YthmlibapjhmdbaaGW3xW4xW5
import Derived.RangeFuncNested
import Derived.RangeFuncBound
import Derived.RangeFuncCalls
import Derived.RangeFuncLeaves
import Derived.Shelf.Abstract
import Derived.Shelf.RegionOpen
import Derived.OwnWalkIn
import Derived.TacticsInMore
import Derived.LoopNIn
import Derived.LoopIn
import Derived.Maps.AppendAt
import Derived.Lib.SmallJoins
namespace Go.Proofs.Ythmlibapjhmdbaa
open Go.RowKit

theorem run_store_fn (P : Program) (w : World) (a : Addr) (m : Mode) (f : Fn) (b c : Array Value) : (store a (.func f b c) m).run P w = stored P w a (.func f b c) m := run_store P w a _ m rfl
theorem run_store_nilfn (P : Program) (w : World) (a : Addr) (m : Mode) : (store a .nilFunc m).run P w = stored P w a .nilFunc m := run_store P w a _ m rfl
attribute [local go_sem] run_store_fn run_store_nilfn

set_option maxHeartbeats 400000 in
theorem block_any (s p : Int) (w : World) :
    Calls Try.prog 69 #[.agg #[.int .i64 s, .int .i64 p]] w fun e w' => e = .returned (.func (.func 84) #[] #[.pointer (some ⟨w.heap.size, 0, none⟩)]) ∧ w' = w.alloc (.cells #[.int .i64 s, .int .i64 p] 28) := by
  go_enter Try.func69, Try.ntmps69
  go_wp2
  go_ret
  exact ⟨rfl, rfl⟩
set_option maxHeartbeats 400000 in
theorem cyclic_any (s p : Int) (w : World) :
    Calls Try.prog 70 #[.agg #[.int .i64 s, .int .i64 p]] w fun e w' => e = .returned (.func (.func 85) #[] #[.pointer (some ⟨w.heap.size, 0, none⟩)]) ∧ w' = w.alloc (.cells #[.int .i64 s, .int .i64 p] 28) := by
  go_enter Try.func70, Try.ntmps70
  go_wp2
  go_ret
  exact ⟨rfl, rfl⟩

theorem Bk.set_ {w : World} {g : Nat} {t : TypeId} {v : Value} (h : Bk w g t #[v]) (u : Value) : Bk (w.setCell ⟨g, 0, none⟩ u) g t #[u] := by
  have := heap_setCell_same w g 0 _ t u h
  exact this
/-- A distribution was told: function f, over a box that holds the layout. -/
def DistOf (s p : Nat) (f : Nat) (w : World) (e : Ending) (w' : World) : Prop :=
  ∃ g, e = .returned (.tuple #[.agg #[.func (.func f) #[] #[.pointer (some ⟨g, 0, none⟩)]], .int .i64 0]) ∧ Bk w' g 28 #[.int .i64 s, .int .i64 p] ∧ Below w.heap.size w w'

set_option maxRecDepth 100000 in
set_option maxHeartbeats 400000 in
theorem dist_block (s p : Nat) (w : World) (h : LOk s p) : Calls Try.prog 59 #[.agg #[.int .i64 s, .int .i64 p], .int .i64 0] w (DistOf s p 84 w) := by
  have H := Lib.hid h
  clear h
  have hb0 := ((Below.refl _ w).alloc (Nat.le_refl _) (.cells #[.int .i64 s, .int .i64 p] 28)).alloc (by simp) (.cells #[.nilFunc] 100)
  have k0 := (Bk.new w 28 #[.int .i64 s, .int .i64 p]).alloc (.cells #[.nilFunc] 100)
  have k1 : Bk ((w.alloc (.cells #[.int .i64 s, .int .i64 p] 28)).alloc (.cells #[.nilFunc] 100)) (w.heap.size + 1) 100 #[.nilFunc] := by
    have := Bk.new (w.alloc (.cells #[.int .i64 s, .int .i64 p] 28)) 100 #[.nilFunc]
    rw [size_alloc] at this
    exact this
  go_enter Try.func59, Try.ntmps59
  go_wp2_with fail
  refine (check_ok s p _ H.out).mono ?_
  rintro e w2 ⟨rfl, hb2⟩
  replace k0 := k0.next hb2
  replace k1 := k1.next hb2
  replace hb0 := bmore hb0 hb2
  clear hb2
  have c0 := k0.cell 0 _ rfl
  have c1 := k0.cell 1 _ rfl
  go_wp2_with fail
  refine (block_any s p _).mono ?_
  rintro e w3 ⟨rfl, hw3⟩
  have k2 : Bk w3 w2.heap.size 28 #[.int .i64 s, .int .i64 p] := by rw [hw3]; exact Bk.new w2 28 _
  have k3 : Bk w3 (w.heap.size + 1) 100 #[.nilFunc] := by rw [hw3]; exact k1.alloc _
  have hb3 : Below w.heap.size w w3 := by rw [hw3]; exact hb0.alloc hb0.size _
  have hl := k1.lt
  clear hw3 c0 c1 k1 k0 hb0
  have c2 := k3.cell 0 _ rfl
  have f2 := k3.frozen 0
  go_wp2_with fail
  have c3 := (k3.set_ (.func (.func 84) #[] #[.pointer (some ⟨w2.heap.size, 0, none⟩)])).cell 0 _ rfl
  refine bodyPost_ret (v := .tuple #[.agg #[.func (.func 84) #[] #[.pointer (some ⟨w2.heap.size, 0, none⟩)]], .int .i64 0]) (by simp [results, Try.results59, go_sem, c3]) rfl ⟨w2.heap.size, rfl, ?_, ?_⟩
  · exact (heap_setCell_other _ _ _ _ (by simp; omega)).trans k2
  · exact hb3.setCell (by simp) _
set_option maxRecDepth 100000 in
set_option maxHeartbeats 400000 in
theorem dist_cyclic (s p : Nat) (w : World) (h : LOk s p) : Calls Try.prog 59 #[.agg #[.int .i64 s, .int .i64 p], .int .i64 1] w (DistOf s p 85 w) := by
  have H := Lib.hid h
  clear h
  have hb0 := ((Below.refl _ w).alloc (Nat.le_refl _) (.cells #[.int .i64 s, .int .i64 p] 28)).alloc (by simp) (.cells #[.nilFunc] 100)
  have k0 := (Bk.new w 28 #[.int .i64 s, .int .i64 p]).alloc (.cells #[.nilFunc] 100)
  have k1 : Bk ((w.alloc (.cells #[.int .i64 s, .int .i64 p] 28)).alloc (.cells #[.nilFunc] 100)) (w.heap.size + 1) 100 #[.nilFunc] := by
    have := Bk.new (w.alloc (.cells #[.int .i64 s, .int .i64 p] 28)) 100 #[.nilFunc]
    rw [size_alloc] at this
    exact this
  go_enter Try.func59, Try.ntmps59
  go_wp2_with fail
  refine (check_ok s p _ H.out).mono ?_
  rintro e w2 ⟨rfl, hb2⟩
  replace k0 := k0.next hb2
  replace k1 := k1.next hb2
  replace hb0 := bmore hb0 hb2
  clear hb2
  have c0 := k0.cell 0 _ rfl
  have c1 := k0.cell 1 _ rfl
  go_wp2_with fail
  refine (cyclic_any s p _).mono ?_
  rintro e w3 ⟨rfl, hw3⟩
  have k2 : Bk w3 w2.heap.size 28 #[.int .i64 s, .int .i64 p] := by rw [hw3]; exact Bk.new w2 28 _
  have k3 : Bk w3 (w.heap.size + 1) 100 #[.nilFunc] := by rw [hw3]; exact k1.alloc _
  have hb3 : Below w.heap.size w w3 := by rw [hw3]; exact hb0.alloc hb0.size _
  have hl := k1.lt
  clear hw3 c0 c1 k1 k0 hb0
  have c2 := k3.cell 0 _ rfl
  have f2 := k3.frozen 0
  go_wp2_with fail
  have c3 := (k3.set_ (.func (.func 85) #[] #[.pointer (some ⟨w2.heap.size, 0, none⟩)])).cell 0 _ rfl
  refine bodyPost_ret (v := .tuple #[.agg #[.func (.func 85) #[] #[.pointer (some ⟨w2.heap.size, 0, none⟩)]], .int .i64 0]) (by simp [results, Try.results59, go_sem, c3]) rfl ⟨w2.heap.size, rfl, ?_, ?_⟩
  · exact (heap_setCell_other _ _ _ _ (by simp; omega)).trans k2
  · exact hb3.setCell (by simp) _

set_option maxRecDepth 100000 in
set_option maxHeartbeats 400000 in
theorem dist_bad (s p d : Int) (w : World) (h : LBad s p) : Calls Try.prog 59 #[.agg #[.int .i64 s, .int .i64 p], .int .i64 d] w fun e w' => e = .returned (.tuple #[.agg #[.nilFunc], .int .i64 1]) ∧ Below w.heap.size w w' := by
  have H := Lib.hid h
  clear h
  have hb0 := ((Below.refl _ w).alloc (Nat.le_refl _) (.cells #[.int .i64 s, .int .i64 p] 28)).alloc (by simp) (.cells #[.nilFunc] 100)
  have k1 : Bk ((w.alloc (.cells #[.int .i64 s, .int .i64 p] 28)).alloc (.cells #[.nilFunc] 100)) (w.heap.size + 1) 100 #[.nilFunc] := by
    have := Bk.new (w.alloc (.cells #[.int .i64 s, .int .i64 p] 28)) 100 #[.nilFunc]
    rw [size_alloc] at this
    exact this
  go_enter Try.func59, Try.ntmps59
  go_wp2_with fail
  refine (check_bad s p _ H.out).mono ?_
  rintro e w2 ⟨rfl, hb2⟩
  replace k1 := k1.next hb2
  replace hb0 := bmore hb0 hb2
  clear hb2
  have c2 := k1.cell 0 _ rfl
  have f2 := k1.frozen 0
  go_wp2_with fail
  have c3 := (k1.set_ .nilFunc).cell 0 _ rfl
  refine bodyPost_ret (v := .tuple #[.agg #[.nilFunc], .int .i64 1]) (by simp [results, Try.results59, go_sem, c3]) rfl ⟨rfl, ?_⟩
  exact hb0.setCell (by simp) _

set_option maxRecDepth 100000 in
set_option maxHeartbeats 400000 in
theorem dist_none (s p : Nat) (d : Int) (w : World) (h : LOk s p) (h0 : (d == 0) = false) (h1 : (d == 1) = false) : Calls Try.prog 59 #[.agg #[.int .i64 s, .int .i64 p], .int .i64 d] w fun e w' => e = .returned (.tuple #[.agg #[.nilFunc], .int .i64 1]) ∧ Below w.heap.size w w' := by
  have H := Lib.hid h
  clear h
  have hb0 := ((Below.refl _ w).alloc (Nat.le_refl _) (.cells #[.int .i64 s, .int .i64 p] 28)).alloc (by simp) (.cells #[.nilFunc] 100)
  have k1 : Bk ((w.alloc (.cells #[.int .i64 s, .int .i64 p] 28)).alloc (.cells #[.nilFunc] 100)) (w.heap.size + 1) 100 #[.nilFunc] := by
    have := Bk.new (w.alloc (.cells #[.int .i64 s, .int .i64 p] 28)) 100 #[.nilFunc]
    rw [size_alloc] at this
    exact this
  go_enter Try.func59, Try.ntmps59
  go_wp2_with fail
  refine (check_ok s p _ H.out).mono ?_
  rintro e w2 ⟨rfl, hb2⟩
  replace k1 := k1.next hb2
  replace hb0 := bmore hb0 hb2
  clear hb2
  have c2 := k1.cell 0 _ rfl
  have f2 := k1.frozen 0
  go_wp2_with fail
  have c3 := (k1.set_ .nilFunc).cell 0 _ rfl
  refine bodyPost_ret (v := .tuple #[.agg #[.nilFunc], .int .i64 1]) (by simp [results, Try.results59, go_sem, c3]) rfl ⟨rfl, ?_⟩
  exact hb0.setCell (by simp) _
end Go.Proofs.Ythmlibapjhmdbaa
/- The two iterators. -/
namespace Go.Proofs.Ythmlibapjhmdbaa
open Go.RowKit Go.Shelf

attribute [local go_sem] Oper.semAt_some

/-- A core. -/
abbrev Core := { c : Nat // c < 256 }
def mkC (n : Nat) : Core := if h : n < 256 then ⟨n, h⟩ else ⟨0, by decide⟩
theorem mkC_val {n : Nat} (h : n < 256) : (mkC n).1 = n := by simp [mkC, h]
/-- What has come behind k rounds. -/
def upto (f : Nat → Nat) (k : Nat) : List Core := (List.range k).map fun j => mkC (f j)
theorem upto_succ (f : Nat → Nat) (k : Nat) : upto f (k + 1) = upto f k ++ [mkC (f k)] := by simp [upto, List.range_succ]
theorem upto_length (f : Nat → Nat) (k : Nat) : (upto f k).length = k := by simp [upto]
/-- The cores of a cyclic order. -/
def cyc (s p j : Nat) : Nat := (j % s) * p + j / s
theorem only_of_below {a w : World} (h : Below a.heap.size a w) : a.grownBy w none := ⟨h.os, h.tape, h.output, h.size, fun i hi _ => h.block i hi⟩

set_option maxRecDepth 100000 in
set_option maxHeartbeats 1000000 in
theorem block_stops (n Bn n₀ s p : Nat) (hn : 1 ≤ n) (h : LOk s p) (w : World) (hBn : Bn < n₀) (hn₀ : n₀ ≤ w.heap.size) (hk : Bk w Bn 28 #[.int .i64 s, .int .i64 p]) :
    SeqStopsK Fence.wide n Try.prog 84 #[.pointer (some ⟨Bn, 0, none⟩)] (fun x : Core => #[Value.int .i64 (x.1 : Nat)]) (Below n₀) (fun ys => ys = upto id (s * p)) (fun pre => ∃ k, k ≤ s * p ∧ pre = upto id k) (s * p) w := fun l J Jx W hW hJ _ hY h0 => by
  have H := Lib.hid h
  have h5 := h.2.2.2.2
  clear h
  have k0 := hk.below hW (by omega)
  have c0 := k0.cell 0 _ rfl
  have c1 := k0.cell 1 _ rfl
  refine callsIn_of_wp Try.func84 rfl trivial ?_ rfl
  simp only [Try.ntmps84, List.size_toArray, List.length_cons, List.length_nil, Nat.reduceAdd, Nat.reduceSub, Array.replicate_succ, Array.replicate_zero, List.push_toArray, List.append_toArray, List.nil_append, List.cons_append]
  gi_wp2_with fail
  refine ⟨trivial, (callsIn_wide.2 (count_nat s p _ H.out)).mono ?_⟩
  rintro e W2 ⟨rfl, hb2⟩
  have h02 := hJ [] W W2 none h0 (only_of_below hb2) (fun r hr => by cases hr)
  have hmul : ((s : Int) * (p : Int)) = ((s * p : Nat) : Int) := by simp
  clear c0 c1 k0 h0
  have hN : s * p ≤ 256 := h5
  clear h5
  obtain ⟨N, hNe⟩ : ∃ N, N = s * p := ⟨_, rfl⟩
  rw [← hNe] at hY hN ⊢
  clear hmul
  have HNe := Lib.hid hNe
  clear hNe
  gi_wp2_with fail
  gi_loopw [6] (fun i wr => ∃ k : Nat, k ≤ N ∧ i = .int .i64 k ∧ J (upto id k) wr)
    (fun i _ => N - (intOf i).toNat)
  case atStart => exact ⟨0, Nat.zero_le _, rfl, h02⟩
  case round =>
    obtain ⟨k, hk, rfl, hJs⟩ := hrel
    by_cases hlt : k < N
    · obtain ⟨fn, tmps, assign, body, hy, hR⟩ := hY _ (mkC k) wr hJs (by rw [upto_length]; exact hlt)
      rw [mkC_val (by omega)] at hy
      gi_wp2
      refine hR.mono ?_
      rintro e W3 (⟨rfl, hJ3, hk3⟩ | ⟨rfl, hJx3⟩)
      · gi_wp2
        go_roundw
        case rel => exact ⟨k + 1, by omega, by go_num, by rw [upto_succ]; exact hJ3⟩
        case measure => simp [intOf]; omega
      · gi_wp2
        refine bodyPost_ret (results_none rfl _ _ _) rfl ?_
        exact ⟨⟨_, rfl⟩, .inr ⟨_, ⟨k + 1, by rw [← HNe.out]; omega, (upto_succ _ _).symm⟩, hJx3⟩⟩
    · obtain rfl : k = N := by omega
      gi_wp2
      go_end0
      exact ⟨⟨_, rfl⟩, .inl ⟨_, congrArg (upto id) HNe.out, hJs⟩⟩

theorem cyc_at (s p place so : Nat) (h : so < s) : cyc s p (place * s + so) = so * p + place := by
  unfold cyc
  rw [Nat.mul_comm place s, Nat.mul_add_mod, Nat.mod_eq_of_lt h, Nat.mul_add_div (by omega), Nat.div_eq_of_lt h]
  rfl
theorem cyc_lt (s p place so : Nat) (h : so < s) (hp : place < p) : so * p + place < s * p := by
  have h1 : (so + 1) * p ≤ s * p := Nat.mul_le_mul_right p h
  rw [Nat.add_mul] at h1
  omega
theorem place_lt (s p place so : Nat) (h : so < s) (hp : place < p) : place * s + so < s * p := by
  have := cyc_lt p s so place hp h
  rw [Nat.mul_comm p s] at this
  exact this

set_option maxRecDepth 100000 in
set_option maxHeartbeats 1000000 in
theorem cyclic_stops (n Bn n₀ s p : Nat) (hn : 1 ≤ n) (h : LOk s p) (w : World) (hBn : Bn < n₀) (hn₀ : n₀ ≤ w.heap.size) (hk : Bk w Bn 28 #[.int .i64 s, .int .i64 p]) :
    SeqStopsK Fence.wide n Try.prog 85 #[.pointer (some ⟨Bn, 0, none⟩)] (fun x : Core => #[Value.int .i64 (x.1 : Nat)]) (Below n₀) (fun ys => ys = upto (cyc s p) (s * p)) (fun pre => ∃ k, k ≤ s * p ∧ pre = upto (cyc s p) k) (s * p) w := fun l J Jx W hW hJ _ hY h0 => by
  obtain ⟨h1, h2, h3, h4, h5⟩ := h
  have H5 := Lib.hid h5
  clear h5
  have k0 := hk.below hW (by omega)
  have c0 := k0.cell 0 _ rfl
  have c1 := k0.cell 1 _ rfl
  refine callsIn_of_wp Try.func85 rfl trivial ?_ rfl
  simp only [Try.ntmps85, List.size_toArray, List.length_cons, List.length_nil, Nat.reduceAdd, Nat.reduceSub, Array.replicate_succ, Array.replicate_zero, List.push_toArray, List.append_toArray, List.nil_append, List.cons_append]
  gi_wp2_with fail
  clear c0 c1
  gi_loopw [7] (fun i wr => ∃ q : Nat, q ≤ p ∧ i = .int .i64 q ∧ J (upto (cyc s p) (q * s)) wr ∧ Bk wr Bn 28 #[.int .i64 s, .int .i64 p])
    (fun i _ => p - (intOf i).toNat)
  case atStart => exact ⟨0, Nat.zero_le _, rfl, by rw [Nat.zero_mul]; exact h0, k0⟩
  case round =>
    obtain ⟨q, hq, rfl, hJq, kq⟩ := hrel
    by_cases hlt : q < p
    · have c0 := kq.cell 0 _ rfl
      gi_wp2_with fail
      clear c0
      gi_loopw [12] (fun i wr => ∃ t : Nat, t ≤ s ∧ i = .int .i64 t ∧ J (upto (cyc s p) (q * s + t)) wr ∧ Bk wr Bn 28 #[.int .i64 s, .int .i64 p])
        (fun i _ => s - (intOf i).toNat)
      case atStart => exact ⟨0, Nat.zero_le _, rfl, hJq, kq⟩
      case round =>
        clear kq hJq
        obtain ⟨t, ht, rfl, hJt, kt⟩ := hrel
        by_cases hlt2 : t < s
        · have hpl := place_lt s p q t hlt2 hlt
          have hcl := cyc_lt s p q t hlt2 hlt
          have HC := Lib.hid (cyc_at s p q t hlt2)
          have hs1 : t * p + q < 256 := Nat.lt_of_lt_of_le hcl H5.out
          have HI : Hid (((t * p + q : Nat) : Int) = (t : Int) * (p : Int) + q) := by show _ = _; simp
          obtain ⟨fn, tmps, assign, body, hy, hR⟩ := hY _ (mkC (t * p + q)) wr hJt (by rw [upto_length]; exact hpl)
          rw [mkC_val hs1, HI.out] at hy
          have b1 : (0 : Int) ≤ (t : Int) * (p : Int) := by have : (0 : Int) ≤ ((t * p : Nat) : Int) := by omega
                                                            simpa using this
          have b2 : (t : Int) * (p : Int) + q < 256 := by rw [← HI.out]; omega
          have c1 := kt.cell 1 _ rfl
          have HP := Lib.hid hpl
          clear hpl hcl hs1
          gi_wp2
          refine hR.mono ?_
          rintro e W3 (⟨rfl, hJ3, hk3⟩ | ⟨rfl, hJx3⟩)
          · have k3 := kt.below hk3 hBn
            clear c1 b1 b2
            gi_wp2
            go_roundw
            case rel => exact ⟨t + 1, by omega, by go_num, by rw [← Nat.add_assoc, upto_succ, HC.out]; exact hJ3, k3⟩
            case measure => simp [intOf]; omega
          · clear c1 b1 b2
            gi_wp2
            refine bodyPost_ret (results_none rfl _ _ _) rfl ?_
            exact ⟨⟨_, rfl⟩, .inr ⟨_, ⟨q * s + t + 1, HP.out, by rw [upto_succ, HC.out]⟩, hJx3⟩⟩
        · obtain rfl : t = s := by omega
          gi_wp2
          go_roundw
          case rel => exact ⟨q + 1, by omega, by go_num, by rw [Nat.add_mul, Nat.one_mul]; exact hJt, kt⟩
          case measure => simp [intOf]; omega
    · obtain rfl : q = p := by omega
      gi_wp2
      go_end0
      exact ⟨⟨_, rfl⟩, .inl ⟨_, by rw [Nat.mul_comm], hJq⟩⟩
end Go.Proofs.Ythmlibapjhmdbaa
/- Order. -/
namespace Go.Proofs.Ythmlibapjhmdbaa
open Go.RowKit Go.Shelf

attribute [local go_sem] Oper.semAt_some run_store_fn run_store_nilfn

/-- The distribution of that number is function fid; its cores are of 0, of 1, .. -/
def IsDist (d : Int) (fid : Nat) (s p : Nat) (of : Nat → Nat) : Prop := (d = 0 ∧ fid = 84 ∧ of = id) ∨ (d = 1 ∧ fid = 85 ∧ of = cyc s p)
theorem dist_any {d : Int} {fid s p : Nat} {of : Nat → Nat} (hd : IsDist d fid s p of) (w : World) (h : LOk s p) : Calls Try.prog 59 #[.agg #[.int .i64 s, .int .i64 p], .int .i64 d] w (DistOf s p fid w) := by
  rcases hd with ⟨rfl, rfl, rfl⟩ | ⟨rfl, rfl, rfl⟩
  · exact dist_block s p w h
  · exact dist_cyclic s p w h
theorem dist_stops {d : Int} {fid s p : Nat} {of : Nat → Nat} (hd : IsDist d fid s p of) (n Bn n₀ : Nat) (hn : 1 ≤ n) (h : LOk s p) (w : World) (hBn : Bn < n₀) (hn₀ : n₀ ≤ w.heap.size) (hk : Bk w Bn 28 #[.int .i64 s, .int .i64 p]) :
    SeqStopsK Fence.wide n Try.prog fid #[.pointer (some ⟨Bn, 0, none⟩)] (fun x : Core => #[Value.int .i64 (x.1 : Nat)]) (Below n₀) (fun ys => ys = upto of (s * p)) (fun pre => ∃ k, k ≤ s * p ∧ pre = upto of k) (s * p) w := by
  rcases hd with ⟨rfl, rfl, rfl⟩ | ⟨rfl, rfl, rfl⟩
  · exact block_stops n Bn n₀ s p hn h w hBn hn₀ hk
  · exact cyclic_stops n Bn n₀ s p hn h w hBn hn₀ hk
theorem dist_enters {d : Int} {fid s p : Nat} {of : Nat → Nat} (hd : IsDist d fid s p of) : ∀ args w, (callFunc fid args).run Try.prog w = .ok (.enter fid args) w := by
  rcases hd with ⟨rfl, rfl, rfl⟩ | ⟨rfl, rfl, rfl⟩
  · exact enters_of Try.func84 (by kernel_rfl) rfl
  · exact enters_of Try.func85 (by kernel_rfl) rfl

theorem info3 : (Try.prog.info? 3).map (fun i => (i.zero, i.size, i.bytes)) = some (some (.int .i64 0), 1, 8) := by kernel_rfl
/-- Cores as values. -/
def cv (l : List Core) : List Value := l.map fun x => Value.int .i64 (x.1 : Nat)
theorem cv_snoc (l : List Core) (x : Core) : cv (l ++ [x]) = cv l ++ [Value.int .i64 (x.1 : Nat)] := by simp [cv]
theorem cv_len (l : List Core) : (cv l).length = l.length := by simp [cv]

/-- A slice of its own that holds these cores. -/
def Gives (w : World) (zs : List Core) (er : Int) (e : Ending) (w' : World) : Prop :=
  ∃ v, e = .returned (.tuple #[v, .int .i64 er]) ∧ w'.ownsRow w.heap.size 3 1 v zs.length (cv zs) ∧ Below w.heap.size w w'

end Go.Proofs.Ythmlibapjhmdbaa
