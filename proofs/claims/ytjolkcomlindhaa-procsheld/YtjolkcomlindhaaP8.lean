/- small. -/
import Derived.Test.YtjolkcomlindhaaP2
import Derived.Deep.LoopGhost
namespace Go.Proofs.Ytjolkcomlindhaa
open Go.RowKit Go.Shelf Go.Maps Go.Sort

def smB (os : List Oq) (n : Nat) (m : Int) : Bool := decide ((∀ o ∈ os, o.len ≤ 300) ∧ (n : Int) ≤ m)
set_option maxRecDepth 100000 in
set_option maxHeartbeats 1000000 in
theorem small_any (A : Option Addr) (n cap : Nat) (os : List Oq) (m : Int) (w : World) (h : Sq w A n os) :
    Calls Try.prog 32 #[.slice A n cap, .int .i64 m] w fun e w' => e = .returned (.bool (smB os n m)) ∧ w = w' := by
  have H := Lib.hid h
  have hm := h.most
  unfold maxLen at hm
  clear h
  go_enter Try.func32, Try.ntmps32
  go_wp2_with fail
  go_loopg [5] n (fun g s5 wr => ∃ k : Nat, k + g = n ∧ s5 = .int .i64 k ∧ w = wr ∧ Hid (∀ o ∈ os.take k, o.len ≤ 300))
  case atStart => exact ⟨0, by omega, rfl, rfl, Lib.hid (fun o ho => by cases ho)⟩
  case round =>
    obtain ⟨k, hk, rfl, rfl, hall⟩ := hrel
    cases gk with
    | zero =>
      obtain rfl : k = n := by omega
      have hlt : ¬ ((k : Int) < (k : Int)) := by omega
      have HE := Lib.hid (show smB os k m = decide ((k : Int) ≤ m) from by
        unfold smB
        have hall2 := hall.out
        rw [List.take_of_length_le (by rw [H.out.len]; exact Nat.le_refl _)] at hall2
        simp only [decide_eq_decide]
        exact ⟨fun h => h.2, fun h => ⟨hall2, h⟩⟩)
      go_wp2_with fail
      go_ret
      exact ⟨by rw [HE.out]; rfl, rfl⟩
    | succ g =>
      have i0 : (0 : Int) ≤ (k : Int) := by omega
      have i1 : (k : Int) < (n : Int) := by omega
      have hkl : k < os.length := by rw [H.out.len]; omega
      rcases H.out.at_ with e | ⟨ad, rfl, hb, hc⟩
      · omega
      have hx := hc k os[k] (List.getElem?_eq_getElem hkl)
      have c8 := hx.c8
      have HT := Lib.hid (show ∀ o ∈ os.take (k + 1), o ∈ os.take k ∨ o = os[k] from fun o ho => by
        rw [List.take_add_one, List.getElem?_eq_getElem hkl, Option.toList_some, List.mem_append, List.mem_singleton] at ho
        exact ho)
      have HM := Lib.hid (show os[k] ∈ os from List.getElem_mem _)
      generalize os[k] = o at *
      by_cases h3 : o.len > 300
      · have h3' : (o.len : Int) > 300 := by omega
        have HE := Lib.hid (show smB os n m = false from by
          unfold smB
          rw [decide_eq_false_iff_not]
          rintro ⟨q, _⟩
          have := q o HM.out
          omega)
        clear hx
        go_wp2_with fail
        go_ret
        exact ⟨by rw [HE.out]; rfl, rfl⟩
      · have h3' : ¬ ((o.len : Int) > 300) := by omega
        clear hx
        go_wp2_with fail
        go_roundg g
        case measure => omega
        case rel =>
          refine ⟨k + 1, by omega, by go_num, rfl, Lib.hid fun x hx => ?_⟩
          rcases HT.out x hx with q | q
          · exact hall.out x q
          · rw [q]; omega
end Go.Proofs.Ytjolkcomlindhaa
