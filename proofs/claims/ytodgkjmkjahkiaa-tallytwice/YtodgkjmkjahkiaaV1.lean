/- The document's tally: has, at. -/
import Derived.Test.YtodgkjmkjahkiaaU2
import Derived.Test.YtodgkjmkjahkiaaU3
namespace Go.Proofs.Ytodgkjmkjahkiaa
open Go.RowKit
set_option maxRecDepth 100000 in
set_option maxHeartbeats 2000000 in
theorem rhas_any (A : Option Addr) (n cap : Nat) (zs : List Int) (x : Int) (w : World) (hA : IntsAt w A zs) (hn : zs.length = n) (hl : n ≤ maxLen) :
    Calls Try.prog 59 #[.slice A n cap, .int .i64 x] w fun e w' => e = .returned (.bool (hasB zs x)) ∧ w' = w := by
  have HN := Lib.hid hn
  clear hn
  unfold maxLen at hl
  go_enter Try.func59, Try.ntmps59
  go_wp2_with fail
  go_loopg [5] n (fun g i wr => ∃ k : Nat, k + g = n ∧ i = .int .i64 k ∧ wr = w ∧ ∀ j, j < k → zs.getD j 0 ≠ x)
  case atStart => exact ⟨0, by omega, rfl, rfl, fun j hj => by omega⟩
  case round =>
    obtain ⟨k, hk, rfl, rfl, hall⟩ := hrel
    cases gk with
    | succ g =>
      have hlt : k < n := by omega
      obtain ⟨ad, rfl, h1, h2⟩ := hA.at_ (k := k) (by rw [HN.out]; exact hlt)
      have i0 : (0 : Int) ≤ (k : Int) := by omega
      have i1 : (k : Int) < (n : Int) := by omega
      have hm : zs.getD k 0 ∈ zs := by
        rw [List.getD_eq_getElem?_getD, List.getElem?_eq_getElem (by rw [HN.out]; exact hlt)]
        exact List.getElem_mem _
      have HM := Lib.hid hm
      clear hm
      by_cases hc : zs.getD k 0 = x
      · have HX := Lib.hid (show hasB zs x = true from hasB_iff.2 (by rw [← hc]; exact HM.out))
        have hd : (zs.getD k 0 == x) = true := by rw [hc]; exact beq_self_eq_true _
        clear hc
        generalize zs.getD k 0 = z at *
        go_wp2_with fail
        go_ret
        exact ⟨by rw [HX.out]; rfl, rfl⟩
      · have hd : (zs.getD k 0 == x) = false := by simpa using hc
        have HL := Lib.hid (show ∀ j, j < k + 1 → zs.getD j 0 ≠ x from by
          intro j hj
          rcases Nat.lt_or_ge j k with h | h
          · exact hall j h
          · obtain rfl : j = k := by omega
            exact hc)
        clear hc
        generalize zs.getD k 0 = z at *
        go_wp2_with fail
        go_roundg g
        case measure => omega
        case rel => exact ⟨k + 1, by omega, by go_num, rfl, HL.out⟩
    | zero =>
      obtain rfl : k = n := by omega
      have HX := Lib.hid (show hasB zs x = false from by
        rw [← Bool.not_eq_true, hasB_iff]
        intro hm
        obtain ⟨j, hj, e⟩ := List.getElem_of_mem hm
        refine hall j (by rw [← HN.out]; exact hj) ?_
        rw [List.getD_eq_getElem?_getD, List.getElem?_eq_getElem hj]
        exact e)
      go_wp2_with fail
      go_ret
      exact ⟨by rw [HX.out]; rfl, rfl⟩
/-- Where a node stands, in the document's tally; or -1. -/
def atI (ns : List Int) (x : Int) : Int := match ixN ns x with
  | some i => (i : Int)
  | none => -1
set_option maxRecDepth 100000 in
set_option maxHeartbeats 2000000 in
theorem rat_any {w : World} {q na nb nc : Nat} {va vb vc : Value} {ns vs cs : List Int} (h : RIn w q va vb vc na nb nc ns vs cs) (hn : ns.length = na) (hl : na ≤ 16) (x : Int) :
    Calls Try.prog 70 #[.pointer (some ⟨q, 0, none⟩), .int .i64 x] w fun e w' => e = .returned (.int .i64 (atI ns x)) ∧ w' = w := by
  obtain ⟨A, cap, rfl⟩ := own_form h.ra
  have hA : Hid (IntsAt w A ns) := by subst hn; exact Lib.hid (ints_iv rfl h.ra)
  have c0 := h.blk.cell 0 _ rfl
  have HN := Lib.hid hn
  clear hn h
  go_enter Try.func70, Try.ntmps70
  go_wp2_with fail
  go_loopg [5] na (fun g i wr => ∃ k : Nat, k + g = na ∧ i = .int .i64 k ∧ wr = w ∧ ∀ j, j < k → (ns.getD j 0 == x) = false)
  case atStart => exact ⟨0, by omega, rfl, rfl, fun j hj => by omega⟩
  case round =>
    obtain ⟨k, hk, rfl, rfl, hall⟩ := hrel
    cases gk with
    | succ g =>
      have hlt : k < na := by omega
      obtain ⟨ad, rfl, h1, h2⟩ := hA.out.at_ (k := k) (by rw [HN.out]; exact hlt)
      have i0 : (0 : Int) ≤ (k : Int) := by omega
      have i1 : (k : Int) < (na : Int) := by omega
      cases hc : ns.getD k 0 == x
      · have HL := Lib.hid (show ∀ j, j < k + 1 → (ns.getD j 0 == x) = false from by
          intro j hj
          rcases Nat.lt_or_ge j k with h | h
          · exact hall j h
          · obtain rfl : j = k := by omega
            exact hc)
        generalize ns.getD k 0 = z at *
        go_wp2_with fail
        go_roundg g
        case measure => omega
        case rel => exact ⟨k + 1, by omega, by go_num, rfl, HL.out⟩
      · have HX := Lib.hid (show atI ns x = (k : Int) from by
          unfold atI ixN
          rw [leastR_some (by rw [HN.out]; exact hlt) hc hall])
        generalize ns.getD k 0 = z at *
        go_wp2_with fail
        go_ret
        exact ⟨by rw [HX.out]; rfl, rfl⟩
    | zero =>
      obtain rfl : k = na := by omega
      have HX := Lib.hid (show atI ns x = -1 from by
        unfold atI ixN
        rw [leastR_none.2 (by rw [HN.out]; exact hall)])
      have i1 : ¬ ((k : Int) < (k : Int)) := by omega
      go_wp2_with fail
      go_ret
      exact ⟨by rw [HX.out]; rfl, rfl⟩
end Go.Proofs.Ytodgkjmkjahkiaa
