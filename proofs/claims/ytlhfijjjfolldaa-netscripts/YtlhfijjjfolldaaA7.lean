/- Nets: List; whether two lists are the same. -/
import Derived.Test.YtlhfijjjfolldaaA5
namespace Go.Proofs.Ytlhfijjjfolldaa
open Go.RowKit Go.Maps

def twB (l : List Str) (m : Int) : Bool := !l.isEmpty && decide ((l.length : Int) < m)
def twL (l : List Str) (m i : Int) : List Str := if twB l m then l ++ [tkS l i] else l
/-- What Twice does. -/
def TwiceC : Prop := ∀ {w : World} {p : Nat} {m k : Int} {v : Value} {l : List Str}, NtAt w p m v l k → ∀ i : Int,
    Calls Try.prog 20 #[.pointer (some ⟨p, 0, none⟩), .int .i64 i] w fun e w' => e = .returned (.bool (twB l m)) ∧ ∃ v', NtAt w' p m v' (twL l m i) k ∧ Tn w w' p v v'
theorem eqs (w : World) (a : Option Addr) (n c n' c' : Nat) : (binOp .eql 30 (.slice a n c) (.slice none n' c')).run Try.prog w = .ok (.bool a.isNone) w := Lib.run_eql_slice_nil w _ _ a n c n' c' Try.underlying30
attribute [local go_sem] eqs
theorem str_ne {a b : ByteArray} (h : a ≠ b) : (a.toList == b.toList) = false := by
  rw [ByteArray.toList_eq, ByteArray.toList_eq, beq_eq_false_iff_ne]
  intro e
  apply h
  cases a
  cases b
  congr 1
  exact Array.toList_inj.1 e
theorem str_eq (a : ByteArray) : (a.toList == a.toList) = true := by simp
set_option maxRecDepth 100000 in
set_option maxHeartbeats 1000000 in
theorem clone_any (A : Option Addr) (n cap : Nat) (zs : List Str) (w : World) (hz : StrsAt w A zs) (hn : zs.length = n) (hl : n ≤ 1000) :
    Calls Try.prog 25 #[.slice A n cap] w fun e w' => ∃ A' cap', e = .returned (.slice A' n cap') ∧ StrsAt w' A' zs ∧ (∀ ad, A' = some ad → w.heap.size ≤ ad.block) ∧ Below w.heap.size w w' := by
  obtain ⟨i0, hi, hz0, hz1, hz2⟩ := info_parts info9
  cases A with
  | none =>
    have e : zs = [] := hz.none_
    subst e
    obtain rfl : n = 0 := by simpa using hn.symm
    go_enter Try.func25, Try.ntmps25
    go_wp2_with fail
    go_ret
    exact ⟨none, 0, rfl, .inl rfl, (fun ad e => by cases e), Below.refl _ _⟩
  | some a =>
    have HZ := Lib.hid (hz.next (below_alloc w (.cells #[] 9)))
    have HN := Lib.hid hn
    clear hz hn
    go_enter Try.func25, Try.ntmps25
    go_wp2_with (at_builtin; refine wpList_append_own _ rfl _ _ 30 rfl w.heap.size 9 i0 (.string ⟨#[]⟩) 1 16 Try.underlying30 hi hz0 hz1 hz2 rfl (by decide) _ _ _ rfl (World.ownsRow_made w #[] 0 (Nat.le_refl _) (Nat.zero_le _) rfl) a n cap (sv zs) rfl ?qc1 ?qc2 ?qc3 ?qc4 ?qc5 ?qc6 ?_)
    case qc1 => rw [sv_len, HN.out]; simp
    case qc2 => exact HZ.out.cells
    case qc3 => exact sv_ones _
    case qc4 => unfold maxLen; omega
    case qc5 => omega
    case qc6 => simp
    intro v' w1 hown hgrow hnil
    obtain ⟨A', cap', rfl⟩ := own_form hown
    go_wp2_with fail
    go_ret
    refine ⟨A', cap', by simp, strs_row HN.out (by simpa using hown), own_new hown, ?_⟩
    exact (below_alloc w _).grown hgrow (by simp) (by intro k hk; simp [Value.ownBlock] at hk; omega)
set_option maxRecDepth 100000 in
set_option maxHeartbeats 1000000 in
theorem list_any {w : World} {p : Nat} {m k : Int} {v : Value} {l : List Str} (h : NtAt w p m v l k) :
    Calls Try.prog 14 #[.pointer (some ⟨p, 0, none⟩)] w fun e w' => ∃ A' cap', e = .returned (.slice A' l.length cap') ∧ StrsAt w' A' l ∧ (∀ ad, A' = some ad → w.heap.size ≤ ad.block) ∧ Below w.heap.size w w' := by
  obtain ⟨A, cap, rfl⟩ := own_form h.row
  have c1 := h.blk.cell 1 _ rfl
  have KC := Lib.hid (clone_any A l.length cap l w (strs_row rfl h.row) rfl h.len)
  clear h
  go_enter Try.func14, Try.ntmps14
  go_wp2_with fail
  refine KC.out.mono ?_
  rintro _ w1 ⟨A', cap', rfl, q1, q2, q3⟩
  go_wp2_with fail
  go_ret
  exact ⟨A', cap', rfl, q1, q2, q3⟩
set_option maxRecDepth 100000 in
set_option maxHeartbeats 2000000 in
theorem same_any (A B : Option Addr) (n m cap cap' : Nat) (xs ys : List Str) (w : World) (hx : StrsAt w A xs) (hy : StrsAt w B ys) (hn : xs.length = n) (hm : ys.length = m) (hl : n ≤ 1000000) (hl2 : m ≤ 1000000) :
    Calls Try.prog 13 #[.slice A n cap, .slice B m cap'] w fun e w' => e = .returned (.bool (decide (xs = ys))) ∧ Below w.heap.size w w' := by
  by_cases he : n = m
  · subst he
    have t0 : ((n : Int) != (n : Int)) = false := by simp
    have HX := Lib.hid hx
    have HY := Lib.hid hy
    have HN := Lib.hid hn
    have HM := Lib.hid hm
    clear hx hy hn hm
    go_enter Try.func13, Try.ntmps13
    go_wp2_with fail
    go_loopg [5] n (fun g s5 wr => ∃ k : Nat, k + g = n ∧ s5 = .int .i64 k ∧ Below w.heap.size w wr ∧ Hid (∀ j, j < k → xs[j]? = ys[j]?))
    case atStart => exact ⟨0, by omega, rfl, Below.refl _ _, Lib.hid (fun j hj => by omega)⟩
    case round =>
      obtain ⟨k, hk, rfl, hb0, HR⟩ := hrel
      cases gk with
      | zero =>
        obtain rfl : k = n := by omega
        have hlt : ¬ ((k : Int) < (k : Int)) := by omega
        have HE := Lib.hid (show decide (xs = ys) = true from decide_eq_true (List.ext_getElem? fun j => by
          by_cases hj : j < k
          · exact HR.out j hj
          · rw [List.getElem?_eq_none (by have := HN.out; omega), List.getElem?_eq_none (by have := HM.out; omega)]))
        go_wp2_with fail
        go_ret
        exact ⟨by rw [HE.out]; rfl, hb0⟩
      | succ g1 =>
        have p0 : (0 : Int) ≤ (k : Int) := by omega
        have p1 : (k : Int) < (n : Int) := by omega
        obtain ⟨x, ex⟩ : ∃ x, xs[k]? = some x := ⟨_, List.getElem?_eq_getElem (by have := HN.out; omega)⟩
        obtain ⟨y, ey⟩ : ∃ y, ys[k]? = some y := ⟨_, List.getElem?_eq_getElem (by have := HM.out; omega)⟩
        obtain ⟨a, rfl, ha, ca⟩ := (HX.out.next hb0).at_ ex
        obtain ⟨b, rfl, hb, cb⟩ := (HY.out.next hb0).at_ ey
        have EX := Lib.hid ex
        have EY := Lib.hid ey
        clear ex ey
        go_upto_region 6 with fail
        refine region_still (by kernel_rfl) (by kernel_rfl) (fun w2 hw2 => ?_)
        have B2 : Hid (Below wr.heap.size wr w2) := below_hid (Below.refl _ _) hw2
        replace ca := (B2.out.cell (p := a.add k) (by rw [block_add]; exact ha)).trans ca
        replace cb := (B2.out.cell (p := b.add k) (by rw [block_add]; exact hb)).trans cb
        replace hb0 := bmore hb0 B2.out
        clear B2 hw2
        by_cases hxy : x = y
        · subst hxy
          have t1 := str_eq x
          repeat still_step
          refine wpStill_nil ?_
          go_wp2_with fail
          go_roundg g1
          case measure => omega
          case rel => exact ⟨k + 1, by omega, by go_num, hb0, Lib.hid (fun j hj => by
            rcases Nat.lt_succ_iff_lt_or_eq.1 hj with q | q
            · exact HR.out j q
            · subst q
              rw [EX.out, EY.out])⟩
        · have HE := Lib.hid (show decide (xs = ys) = false from decide_eq_false (fun e => hxy (by
            have := EX.out
            rw [e, EY.out] at this
            exact (Option.some.inj this).symm)))
          have t1 := str_ne hxy
          repeat still_step
          refine wpStill_nil ?_
          go_wp2_with fail
          go_ret
          exact ⟨by rw [HE.out]; rfl, hb0⟩
  · have t0 : ((n : Int) != (m : Int)) = true := by
      have : ¬ ((n : Int) = (m : Int)) := by omega
      simpa using this
    have HE := Lib.hid (show decide (xs = ys) = false from decide_eq_false (fun e => he (by rw [← hn, ← hm, e])))
    clear he hx hy hn hm
    go_enter Try.func13, Try.ntmps13
    go_wp2_with fail
    go_ret
    exact ⟨by rw [HE.out]; rfl, Below.refl _ _⟩
end Go.Proofs.Ytlhfijjjfolldaa
