/- Between; the document's Same of two alike; own. -/
import Derived.Test.YtinbaepligploaaA2
import Derived.Lib.SmallJoins
namespace Go.Proofs.Ytinbaepligploaa
open Go.RowKit Go.Shelf

theorem info3 : (Try.prog.info? 3).map (fun i => (i.zero, i.size, i.bytes)) = some (some (.int .i64 0), 1, 8) := by kernel_rfl
/-- Numbers as values. -/
def iv (l : List Int) : List Value := l.map fun x => Value.int .i64 x
theorem iv_snoc (l : List Int) (x : Int) : iv (l ++ [x]) = iv l ++ [Value.int .i64 x] := by simp [iv]
theorem iv_len (l : List Int) : (iv l).length = l.length := by simp [iv]
theorem ints_iv {w : World} {base n cap : Nat} {xs : List Int} {A : Option Addr} (hn : xs.length = n) (h : w.ownsRow base 3 1 (.slice A n cap) n (iv xs)) : IntsAt w A xs := by
  rcases h.2 with ⟨h0, h1⟩ | ⟨g', cap', cur, h1, h2, h3, h4, h5, h6, h7⟩
  · subst h1; exact .inl (List.length_eq_zero_iff.1 hn)
  · cases h1
    refine .inr ⟨_, rfl, (Array.getElem?_eq_some_iff.1 h3).1, fun j hj => ?_⟩
    have hadd : (⟨g', 0, none⟩ : Addr).add j = ⟨g', j, none⟩ := by unfold Addr.add; split <;> simp_all
    rw [hadd, cell_of_row w g' j cur 3 (0, 0) h3]
    have e1 : cur[j]? = (iv xs)[j]? := by
      rw [← h7, List.getElem?_take, if_pos (by omega)]; simp
    rw [e1]
    simp [iv, List.getD, hj]
theorem own_form {w : World} {base size n : Nat} {e : TypeId} {v : Value} {xs : List Value} (h : w.ownsRow base e size v n xs) : ∃ A cap, v = .slice A n cap := by
  rcases Joins.ownsRow_forms h with ⟨rfl, rfl⟩ | ⟨g, cap, rfl⟩
  · exact ⟨none, 0, rfl⟩
  · exact ⟨_, cap, rfl⟩
theorem own_next {w w' : World} {base size n : Nat} {e : TypeId} {v : Value} {xs : List Value} (h : w.ownsRow base e size v n xs) (hb : Below w.heap.size w w') : w'.ownsRow base e size v n xs := by
  refine ⟨h.1, ?_⟩
  rcases h.2 with h0 | ⟨g, cap, cur, h1, h2, h3, h4⟩
  · exact .inl h0
  · exact .inr ⟨g, cap, cur, h1, h2, (hb.block g (Array.getElem?_eq_some_iff.1 h3).1).trans h3, h4⟩
/-- Behind an append onto a slice of its own: what lies below is as it was. -/
theorem appended_below {W w1 : World} {n₀ : Nat} {e : TypeId} {size : Nat} {v : Value} {k : Nat} {xs : List Value} {tmp : Obj} (hrow : W.ownsRow n₀ e size v k xs) (hn₀ : n₀ ≤ W.heap.size) (hgrow : (W.alloc tmp).grownBy w1 v.ownBlock) : Below n₀ W w1 := by
  refine ((Below.refl n₀ W).alloc hn₀ tmp).grown hgrow (by simp; omega) fun j ej => ?_
  rcases hrow.2 with ⟨rfl, _⟩ | ⟨g, cap, cur, rfl, hb, _, _⟩
  · simp [Value.ownBlock] at ej
  · obtain rfl : g = j := by simpa [Value.ownBlock] using ej
    exact hb

/-- The numbers behind a, k of them. -/
def behind (a : Int) (k : Nat) : List Int := (List.range k).map fun j : Nat => a + 1 + (j : Int)
theorem behind_succ (a : Int) (k : Nat) : behind a (k + 1) = behind a k ++ [a + 1 + (k : Int)] := by simp [behind, List.range_succ]
theorem behind_length (a : Int) (k : Nat) : (behind a k).length = k := by simp [behind]

theorem back5 (r0 r1 r2 r3 r4 : Int) : back [r0, r1, r2, r3, r4] 5 = [(4, r4), (3, r3), (2, r2), (1, r1), (0, r0)] := rfl
theorem stageOf5 (r0 r1 r2 r3 r4 now : Int) : stageOf (back [r0, r1, r2, r3, r4] 5) now = if r4 ≤ now then 4 else if r3 ≤ now then 3 else if r2 ≤ now then 2 else if r1 ≤ now then 1 else if r0 ≤ now then 0 else -1 := by
  rw [back5]
  unfold stageOf
  by_cases h4 : r4 ≤ now
  · simp [h4]
  · by_cases h3 : r3 ≤ now
    · simp [h4, h3]
    · by_cases h2 : r2 ≤ now
      · simp [h4, h3, h2]
      · by_cases h1 : r1 ≤ now
        · simp [h4, h3, h2, h1]
        · by_cases h0 : r0 ≤ now
          · simp [h4, h3, h2, h1, h0]
          · simp [h4, h3, h2, h1, h0]
theorem stageE_range (l wn g k f c now : Int) : -1 ≤ stageE l wn g k f c now ∧ stageE l wn g k f c now ≤ 4 := by
  unfold stageE
  split
  · rw [stageOf5]
    repeat' split
    all_goals omega
  · omega

/-- A slice of its own that holds these numbers. -/
def Gives (w : World) (zs : List Int) (e : Ending) (w' : World) : Prop :=
  ∃ v, e = .returned v ∧ w'.ownsRow w.heap.size 3 1 v zs.length (iv zs) ∧ Below w.heap.size w w'
def btw (a b : Int) : List Int := behind a (b - a).toNat

set_option maxRecDepth 100000 in
set_option maxHeartbeats 1000000 in
theorem between_any (l wn g k f c fr to : Int) (w : World) : Calls Try.prog 34 #[.agg #[.int .i64 l, .int .i64 wn, .int .i64 g, .int .i64 k], .agg #[.int .i64 f, .int .i64 c], .int .i64 fr, .int .i64 to] w (Gives w (btw (stageE l wn g k f c fr) (stageE l wn g k f c to))) := by
  have st := PR.new w l wn g k f c
  obtain ⟨i0, hi, hz0, hz1, hz2⟩ := info_parts info3
  obtain ⟨ha1, ha2⟩ := stageE_range l wn g k f c fr
  obtain ⟨hb1, hb2⟩ := stageE_range l wn g k f c to
  have K1 := Lib.hid (stage_any l wn g k f c fr)
  have K2 := Lib.hid (stage_any l wn g k f c to)
  generalize stageE l wn g k f c fr = a at *
  generalize stageE l wn g k f c to = b at *
  go_enter Try.func34, Try.ntmps34
  go_wp2_with fail
  refine (K2.out _).mono ?_
  rintro x w1 ⟨rfl, hb⟩
  replace st := st.next hb
  obtain ⟨a0, a1, a2, a3, b0, b1⟩ := st.cells
  clear hb
  go_wp2_with fail
  refine (K1.out _).mono ?_
  rintro x w2 ⟨rfl, hb⟩
  replace st := st.next hb
  clear a0 a1 a2 a3 b0 b1 hb K1 K2
  have hsz := st.low.size
  go_wp2_with fail
  go_loopw [9, 11] (fun o i wr => ∃ (q : Nat), q ≤ (b - a).toNat ∧ i = .int .i64 (a + 1 + q) ∧ wr.ownsRow w2.heap.size 3 1 o q (iv (behind a q)) ∧ Below w2.heap.size w2 wr)
    (fun _ i _ => (b + 1 - intOf i).toNat)
  case atStart => exact ⟨0, Nat.zero_le _, by go_num, World.ownsRow_nil _ _ _ _, Below.refl _ _⟩
  case round =>
    obtain ⟨q, hq, rfl, hrow, hb⟩ := hrel
    obtain ⟨A, cap, rfl⟩ := own_form hrow
    have hsz2 := hb.size
    by_cases hlt : a + 1 + q ≤ b
    · go_wp2_with (at_builtin; refine wpList_append_own _ rfl _ _ 39 rfl w2.heap.size 3 i0 (.int .i64 0) 1 8 Try.underlying39 hi hz0 hz1 hz2 rfl (by decide) _ _ _ rfl (hrow.alloc _) ⟨wr.heap.size, 0, none⟩ 1 1 [.int .i64 (a + 1 + q)] rfl rfl (cell_one_new _ _ _) (by simp [Value.oneCell']) (by unfold maxLen; omega) (by omega) (by simp; omega) ?_; intro v' w1 hown' hgrow _; obtain ⟨g', cap', rfl⟩ := ownsRow_succ hown'; have hb1 := appended_below hrow (by omega) hgrow)
      go_roundw
      case rel => exact ⟨q + 1, by omega, by go_num, by rw [behind_succ, iv_snoc]; exact hown', hb.trans hb1⟩
      case measure => simp [intOf]; omega
    · obtain rfl : q = (b - a).toNat := by omega
      go_wp2_with fail
      go_ret
      exact ⟨_, rfl, by unfold btw; rw [behind_length]; exact Joins.ownsRow_le hrow hsz, bmore st.low hb⟩

theorem below_drewN' {B : Nat} {a w : World} (h : Below B a w) (n : Nat) : Below B a (w.drewN n) := ⟨h.os, h.tape, h.output, h.size, h.block⟩
set_option maxRecDepth 100000 in
set_option maxHeartbeats 400000 in
theorem same_eq (A A' : Option Addr) (ca cb n : Nat) (zs : List Int) (w : World) (hA : IntsAt w A zs) (hB : IntsAt w A' zs) (hn : zs.length = n) (hl : n ≤ maxLen) :
    Calls Try.prog 30 #[.slice A n ca, .slice A' n cb] w fun e w' => e = .returned (.bool true) ∧ Below w.heap.size w w' := by
  have HN := Lib.hid hn
  clear hn
  unfold maxLen at hl
  go_enter Try.func30, Try.ntmps30
  go_wp2_with fail
  go_loopw [5] (fun i wr => ∃ k : Nat, k ≤ n ∧ i = .int .i64 k ∧ Below w.heap.size w wr)
    (fun i _ => n - (intOf i).toNat)
  case atStart => exact ⟨0, Nat.zero_le _, rfl, Below.refl _ _⟩
  case round =>
    obtain ⟨k, hk, rfl, hb⟩ := hrel
    by_cases hlt : k < n
    · obtain ⟨ad, rfl, h1, h2⟩ := (hA.next hb).at_ (k := k) (by rw [HN.out]; exact hlt)
      obtain ⟨ad', rfl, h3, h4⟩ := (hB.next hb).at_ (k := k) (by rw [HN.out]; exact hlt)
      generalize zs.getD k 0 = z at *
      have i0 : (0 : Int) ≤ (k : Int) := by omega
      have i1 : (k : Int) < (n : Int) := by omega
      go_wp2_with fail
      go_quiet (fail)
      go_wp2_with fail
      go_roundw
      case rel => exact ⟨k + 1, by omega, by go_num, below_drewN' hb _⟩
      case measure => simp [intOf]; omega
    · obtain rfl : k = n := by omega
      go_wp2_with fail
      go_ret
      exact ⟨rfl, hb⟩

set_option maxRecDepth 100000 in
set_option maxHeartbeats 1000000 in
theorem own_any (l wn g k f c : Int) (w : World) : Calls Try.prog 24 #[.agg #[.int .i64 l, .int .i64 wn, .int .i64 g, .int .i64 k], .agg #[.int .i64 f, .int .i64 c]] w fun x w' => x = .returned (.tuple #[.agg #[.int .i64 l, .int .i64 wn, .int .i64 g, .int .i64 k], .agg #[.int .i64 f, .int .i64 c]]) ∧ Below w.heap.size w w' := by
  go_enter Try.func24, Try.ntmps24
  go_wp2_with fail
  go_region
  go_wp2_with fail
  refine bodyPost_ret (v := .tuple #[.agg #[.int .i64 l, .int .i64 wn, .int .i64 g, .int .i64 k], .agg #[.int .i64 f, .int .i64 c]]) (by simp [results, Try.results24, go_sem]) rfl ⟨rfl, ?_⟩
  exact below_drewN' (((((below_alloc _ _).alloc (by simp) _).alloc (by simp; omega) _).alloc (by simp; omega) _)) _
end Go.Proofs.Ytinbaepligploaa
