/- dag: sizesMayBe, edgesMayBe, mayBe. -/
import Derived.Test.YtodgkjmkjahkiaaD1
namespace Go.Proofs.Ytodgkjmkjahkiaa
open Go.RowKit

/-- Worlds in which what lies below B is as it was. -/
structure In (B : Nat) (w : World) where
  val : World
  ok : Below B w val
theorem inNonempty (B : Nat) (w : World) : Nonempty (In B w) := ⟨⟨w, Below.refl _ _⟩⟩
/-- A region that draws its order, whose own operations only read, and whose callees leave what lies below B: one walk. -/
theorem region_in {P : Program} {id : Nat} {Q : Exit → Act → World → Prop} {a : Act} {w : World} {l : List Oper} (B : Nat) (hm : P.follows .mixedOrders = true) (hB : Region.lexB .any l.toArray = true)
    (h : wpQuiet P l.toArray (fun w' => ∃ n : In B w, w' = n.val) (fun a' => ∀ w', Below B w w' → Q .normal a' w') l a) : (Code.region id l.toArray true).wp P Q a w := by
  refine wp_region_quiet (C := fun w' => ∃ n : In B w, w' = n.val) hm hB ⟨⟨_, (Below.refl B w).drew⟩, rfl⟩ ?_
  have e : (fun a' : Act => ∀ w', (∃ n : In B w, w' = n.val) → Q .normal a' w') = fun a' : Act => ∀ w', Below B w w' → Q .normal a' w' := by
    funext a'
    apply propext
    constructor
    · intro h w' hb; exact h w' ⟨⟨w', hb⟩, rfl⟩
    · rintro h w' ⟨n, rfl⟩; exact h _ n.ok
  rw [e]
  simpa using h
theorem In.cell {B : Nat} {w : World} {p : Addr} {v : Value} (hp : p.block < B) (h : w.cell? p = some v) (n : In B w) : n.val.cell? p = some v := (n.ok.cell hp).trans h
/-- A callee's contract in a world of the class. -/
theorem Calls.in_of {P : Program} {f : FuncId} {args : Array Value} {B : Nat} {w : World} {n : In B w} {v : Value} (hB : B ≤ w.heap.size)
    (h : Calls P f args n.val fun e w' => e = .returned v ∧ Below n.val.heap.size n.val w') : Calls P f args n.val fun e w'' => e = .returned v ∧ ∃ m : In B w, w'' = m.val :=
  h.mono fun _ w' ⟨he, hm⟩ => ⟨he, ⟨w', n.ok.trans (hm.mono (Nat.le_trans hB n.ok.size))⟩, rfl⟩
theorem Calls.in_eq {P : Program} {f : FuncId} {args : Array Value} {B : Nat} {w : World} {n : In B w} {v : Value}
    (h : Calls P f args n.val fun e w' => e = .returned v ∧ w' = n.val) : Calls P f args n.val fun e w'' => e = .returned v ∧ ∃ m : In B w, w'' = m.val :=
  h.mono fun _ _ ⟨he, hm⟩ => ⟨he, n, hm⟩

set_option maxRecDepth 100000 in
set_option maxHeartbeats 400000 in
theorem sizes_any (s : St) (v : Value) (w : World) : Calls Try.prog 67 #[.agg #[.int .i64 s.r, .int .i64 s.p, .int .i64 s.d, .int .i64 s.m, v]] w fun x w' => x = .returned (.bool (sizesB s)) ∧ Below w.heap.size w w' := by
  have hb0 := below_alloc w (.cells #[.int .i64 s.r, .int .i64 s.p, .int .i64 s.d, .int .i64 s.m, v] 38)
  have K1 := Lib.hid (isW_any s.r 1 32)
  have K2 := Lib.hid (isW_any s.p 1 256)
  have K3 := Lib.hid (isW_any s.d 0 1)
  have K4 := Lib.hid (isW_any s.m 1 1073741824)
  unfold sizesB
  generalize isW s.r 1 32 = b1 at *
  generalize isW s.p 1 256 = b2 at *
  generalize isW s.d 0 1 = b3 at *
  generalize isW s.m 1 1073741824 = b4 at *
  cases b1 <;> cases b2 <;> cases b3 <;> cases b4
  all_goals
    go_enter Try.func67, Try.ntmps67
    go_wp2_with (first
      | (go_at_call 66; (with_reducible refine (K1.out _).mono ?_); rintro x wn ⟨rfl, rfl⟩)
      | (go_at_call 66; (with_reducible refine (K2.out _).mono ?_); rintro x wn ⟨rfl, rfl⟩)
      | (go_at_call 66; (with_reducible refine (K3.out _).mono ?_); rintro x wn ⟨rfl, rfl⟩)
      | (go_at_call 66; (with_reducible refine (K4.out _).mono ?_); rintro x wn ⟨rfl, rfl⟩))
    go_ret
    exact ⟨rfl, hb0⟩
set_option maxRecDepth 100000 in
set_option maxHeartbeats 1000000 in
theorem edges_any (A : Option Addr) (n cap : Nat) (es : List Ed) (a m : Int) (w : World) (hA : EdsAt w A es) (hn : es.length = n) (hl : n ≤ maxLen) (hc : n ≤ cap) (hm : 0 ≤ m ∧ m ≤ 4611686018427387904) :
    Calls Try.prog 68 #[.slice A n cap, .int .i64 a, .int .i64 m] w fun e w' => e = .returned (.bool (edgesB es a m)) ∧ Below w.heap.size w w' := by
  have HN := Lib.hid hn
  have hl0 := hl
  have HL := Lib.hid hl0
  have em : wrap64 (m - 1) = m - 1 := IntWalk.wrap64_in _ (by omega)
  clear hn hm hl0
  unfold maxLen at hl
  go_enter Try.func68, Try.ntmps68
  go_wp2_with fail
  go_loopw [11] (fun i wr => ∃ k : Nat, k ≤ n ∧ i = .int .i64 k ∧ Below w.heap.size w wr ∧ allR (edgeB es a m) k = true)
    (fun i _ => n - (intOf i).toNat)
  case atStart => exact ⟨0, Nat.zero_le _, rfl, Below.refl _ _, rfl⟩
  case round =>
    obtain ⟨k, hk, rfl, hb, hall⟩ := hrel
    by_cases hlt : k < n
    · have hE := hA.next hb
      obtain ⟨ad, rfl, h1, h2⟩ := hE.at_ (k := k) (by rw [HN.out]; exact hlt)
      obtain ⟨c0, c1⟩ := h2
      have i0 : (0 : Int) ≤ (k : Int) := by omega
      have i1 : (k : Int) < (n : Int) := by omega
      have i2 : (k : Int) ≤ (cap : Int) := by omega
      have hallk := Lib.hid (show allR (edgeB es a m) (k + 1) = edgeB es a m k from by simp only [allR, hall, Bool.true_and])
      have hno := Lib.hid (show edgeB es a m k = false → edgesB es a m = false from fun h => by unfold edgesB; exact allR_no (by rw [HN.out]; exact hlt) h)
      have hde : edgeB es a m k = (isW (edA es k).s 0 (m - 1) && !((edA es k).s == a) && isW (edA es k).k 0 2 && !namesB es k (edA es k).s) := rfl
      rw [hde] at hallk hno
      clear hde
      have K1 := Lib.hid (isW_any (edA es k).s 0 (m - 1))
      have K3 := Lib.hid (isW_any (edA es k).k 0 2)
      have kr := Bk.new wr 40 #[.int .i64 (edA es k).s, .int .i64 (edA es k).k]
      have hbW := below_alloc wr (.cells #[.int .i64 (edA es k).s, .int .i64 (edA es k).k] 40)
      have hEW := hE.next hbW
      have HB := Lib.hid (bmore hb hbW)
      have K4 := Lib.hid (fun V (h : Below (wr.alloc (.cells #[.int .i64 (edA es k).s, .int .i64 (edA es k).k] 40)).heap.size (wr.alloc (.cells #[.int .i64 (edA es k).s, .int .i64 (edA es k).k] 40)) V) => names_any (some ad) k cap es (edA es k).s V (hEW.next h) (by rw [HN.out]; omega) (Nat.le_trans hk HL.out))
      clear hE hEW hbW
      generalize isW (edA es k).s 0 (m - 1) = b1 at *
      generalize isW (edA es k).k 0 2 = b3 at *
      generalize namesB es k (edA es k).s = b4 at *
      generalize edA es k = x at *
      cases b1 <;> cases b2 : (x.s == a) <;> cases b3 <;> cases b4
      all_goals
        rw [b2] at hallk hno
        go_wp2_with fail
        generalize wr.alloc (Obj.cells #[.int .i64 x.s, .int .i64 x.k] 40) = W at *
        have hg := kr.lt
        have d0 := kr.cell 0 _ rfl
        have d1 := kr.cell 1 _ rfl
        generalize wr.heap.size = g at *
        replace d0 := In.cell (B := W.heap.size) hg d0
        replace d1 := In.cell (B := W.heap.size) hg d1
        have hIn := inNonempty W.heap.size W
        refine region_in W.heap.size (by kernel_rfl) (by kernel_rfl) ?_
        repeat (go_big_quiet_step (first
          | (go_at_call 66; with_reducible exact Calls.in_eq (K1.out _))
          | (go_at_call 66; with_reducible exact Calls.in_eq (K3.out _))
          | (go_at_call 71; with_reducible exact Calls.in_of (Nat.le_refl _) (K4.out _ (In.ok _)))))
        refine wpQuiet_nil ?_
        intro w4 hb4
        have hb5 := HB.out.trans (hb4.mono HB.out.size)
        clear d0 d1 hIn hb4
        go_wp2_with fail
        first
          | (go_ret
             exact ⟨by rw [hno.out rfl]; rfl, hb5⟩)
          | (go_roundw
             case rel => exact ⟨k + 1, by omega, by go_num, hb5, hallk.out⟩
             case measure => simp [intOf]; omega)
    · obtain rfl : k = n := by omega
      go_wp2_with fail
      go_ret
      exact ⟨by unfold edgesB; rw [HN.out, hall]; rfl, hb⟩
end Go.Proofs.Ytodgkjmkjahkiaa
