/- dag: Check, Order, checkCodes, Ready. -/
import Derived.Test.YtodgkjmkjahkiaaD5
namespace Go.Proofs.Ytodgkjmkjahkiaa
open Go.RowKit

/-- Steps in a slice. -/
structure Sl (w : World) (A : Option Addr) (n cap : Nat) (l : List St) : Prop where
  sts : StsAt w A l
  len : l.length = n
  most : n ≤ maxLen
  cap : n ≤ cap
theorem Sl.next {w w' : World} {A : Option Addr} {n cap : Nat} {l : List St} (h : Sl w A n cap l) (hb : Below w.heap.size w w') : Sl w' A n cap l := ⟨h.sts.next hb, h.len, h.most, h.cap⟩
/-- Numbers in a slice. -/
structure Il (w : World) (A : Option Addr) (n : Nat) (zs : List Int) : Prop where
  ints : IntsAt w A zs
  len : zs.length = n
  most : n ≤ maxLen
theorem Il.next {w w' : World} {A : Option Addr} {n : Nat} {zs : List Int} (h : Il w A n zs) (hb : Below w.heap.size w w') : Il w' A n zs := ⟨h.ints.next hb, h.len, h.most⟩
/-- A slice of its own that holds these numbers. -/
def Gives (w : World) (zs : List Int) (e : Ending) (w' : World) : Prop := ∃ v, e = .returned v ∧ w'.ownsRow w.heap.size 3 1 v zs.length (iv zs) ∧ Below w.heap.size w w'
theorem may_len {l : List St} (h : mayB l = true) : 1 ≤ l.length ∧ l.length ≤ 16 := by
  unfold mayB at h
  simp only [Bool.and_eq_true] at h
  have := isW_iff.1 h.1
  omega
theorem may_edge {l : List St} (h : mayB l = true) {i k : Nat} (hi : i < l.length) (hk : k < (stA l i).es.length) : ∃ j : Nat, (edA (stA l i).es k).s = j ∧ j < l.length := by
  unfold mayB at h
  simp only [Bool.and_eq_true] at h
  have h1 := allR_iff.1 h.2 i hi
  simp only [Bool.and_eq_true] at h1
  have h2 := allR_iff.1 h1.2 k hk
  unfold edgeB at h2
  simp only [Bool.and_eq_true] at h2
  have := isW_iff.1 h2.1.1.1
  exact ⟨(edA (stA l i).es k).s.toNat, by omega, by omega⟩

set_option maxRecDepth 100000 in
set_option maxHeartbeats 1000000 in
theorem check_any (A : Option Addr) (n cap : Nat) (l : List St) (w : World) (h : Sl w A n cap l) :
    Calls Try.prog 17 #[.slice A n cap] w fun e w' => e = .returned (.int .i64 (checkB l)) ∧ Below w.heap.size w w' := by
  have K1 := Lib.hid (may_any A n cap l w h.sts h.len h.most h.cap)
  have hml := Lib.hid (fun m : mayB l = true => may_len m)
  have hd := Lib.hid (show checkB l = if mayB l then if (placesB l).length < l.length then 15 else 0 else 1 from rfl)
  have H := Lib.hid h
  clear h
  cases hm : mayB l
  · have hT := Lib.hid (show checkB l = 1 from by rw [hd.out, hm]; rfl)
    rw [hm] at K1
    clear hm
    go_enter Try.func17, Try.ntmps17
    go_wp2_with (go_at_call 43; (with_reducible refine K1.out.mono ?_); rintro y w1 ⟨rfl, hb1⟩)
    go_ret
    exact ⟨by rw [hT.out]; rfl, hb1⟩
  · have h16 := (hml.out hm).2
    rw [H.out.len] at h16
    have K2 := Lib.hid (fun V (hb : Below w.heap.size w V) => places_any A n cap l V (H.out.sts.next hb) H.out.len h16)
    rw [hm] at K1
    have hz := (Good.places l).le
    rw [H.out.len] at hz
    generalize hp : placesB l = p at *
    have hT := Lib.hid (show checkB l = if p.length < n then 15 else 0 from by rw [hd.out, hm, H.out.len]; rfl)
    clear hm hp
    by_cases hlt : p.length < n
    · have hlt' : (p.length : Int) < (n : Int) := by omega
      go_enter Try.func17, Try.ntmps17
      go_wp2_with (first
        | (go_at_call 43; (with_reducible refine K1.out.mono ?_); rintro y w1 ⟨rfl, hb1⟩)
        | (go_at_call 44; (with_reducible refine (K2.out _ hb1).mono ?_); rintro y w2 ⟨v, rfl, hrow, hb2⟩; obtain ⟨A1, cap1, rfl⟩ := own_form hrow))
      go_ret
      exact ⟨by rw [hT.out, if_pos hlt]; rfl, bmore hb1 hb2⟩
    · have hlt' : ¬ (p.length : Int) < (n : Int) := by omega
      go_enter Try.func17, Try.ntmps17
      go_wp2_with (first
        | (go_at_call 43; (with_reducible refine K1.out.mono ?_); rintro y w1 ⟨rfl, hb1⟩)
        | (go_at_call 44; (with_reducible refine (K2.out _ hb1).mono ?_); rintro y w2 ⟨v, rfl, hrow, hb2⟩; obtain ⟨A1, cap1, rfl⟩ := own_form hrow))
      go_ret
      exact ⟨by rw [hT.out, if_neg hlt]; rfl, bmore hb1 hb2⟩
set_option maxRecDepth 100000 in
set_option maxHeartbeats 1000000 in
theorem order_any (A : Option Addr) (n cap : Nat) (l : List St) (w : World) (h : Sl w A n cap l) : Calls Try.prog 20 #[.slice A n cap] w (Gives w (orderB l)) := by
  have K1 := Lib.hid (check_any A n cap l w h)
  have H := Lib.hid h
  clear h
  by_cases hc : checkB l = 0
  · have hT := Lib.hid (show orderB l = placesB l from by unfold orderB; rw [if_pos hc])
    have h16 := (may_len (check_ok hc).1).2
    rw [H.out.len] at h16
    have K2 := Lib.hid (fun V (hb : Below w.heap.size w V) => places_any A n cap l V (H.out.sts.next hb) H.out.len h16)
    rw [hc] at K1
    clear hc
    go_enter Try.func20, Try.ntmps20
    go_wp2_with (first
      | (go_at_call 17; (with_reducible refine K1.out.mono ?_); rintro y w1 ⟨rfl, hb1⟩)
      | (go_at_call 44; (with_reducible refine (K2.out _ hb1).mono ?_); rintro y w2 ⟨v, rfl, hrow, hb2⟩))
    go_ret
    refine ⟨_, rfl, ?_, bmore hb1 hb2⟩
    rw [hT.out]
    exact Joins.ownsRow_le hrow hb1.size
  · have hT := Lib.hid (show orderB l = [] from by unfold orderB; rw [if_neg hc])
    have hc' : (checkB l == 0) = false := by simpa using hc
    have hc2 : (checkB l != 0) = true := by unfold bne; rw [hc']; rfl
    generalize checkB l = c at *
    clear hc
    go_enter Try.func20, Try.ntmps20
    go_wp2_with (go_at_call 17; (with_reducible refine K1.out.mono ?_); rintro y w1 ⟨rfl, hb1⟩)
    go_ret
    refine ⟨_, rfl, ?_, hb1⟩
    rw [hT.out]
    exact World.ownsRow_nil _ _ _ _
def wiB (cs : List Int) (i : Nat) : Bool := isW (codeA cs i) (-1) 256
set_option maxRecDepth 100000 in
set_option maxHeartbeats 1000000 in
theorem ck_any (A C : Option Addr) (n cap m cc : Nat) (l : List St) (cs : List Int) (w : World) (h : Sl w A n cap l) (hC : Il w C m cs) :
    Calls Try.prog 47 #[.slice A n cap, .slice C m cc] w fun e w' => e = .returned (.int .i64 (ckB l cs)) ∧ Below w.heap.size w w' := by
  have K1 := Lib.hid (check_any A n cap l w h)
  have hd := Lib.hid (show ckB l cs = if checkB l = 0 then (if cs.length = l.length then (if allR (wiB cs) cs.length then 0 else 5) else 5) else checkB l from rfl)
  rw [h.len, hC.len] at hd
  have H := Lib.hid hC
  have hmm := hC.most
  unfold maxLen at hmm
  clear h hC
  by_cases hc : checkB l = 0
  · rw [hc] at K1 hd
    clear hc
    by_cases hl : m = n
    · subst hl
      have hmm' : ((m : Int) != m) = false := by simp
      rw [if_pos rfl, if_pos rfl] at hd
      go_enter Try.func47, Try.ntmps47
      go_wp2_with (go_at_call 17; (with_reducible refine K1.out.mono ?_); rintro y w1 ⟨rfl, hb1⟩)
      go_loopw [20] (fun i wr => ∃ k : Nat, k ≤ m ∧ i = .int .i64 k ∧ wr = w1 ∧ allR (wiB cs) k = true)
        (fun i _ => m - (intOf i).toNat)
      case atStart => exact ⟨0, Nat.zero_le _, rfl, rfl, rfl⟩
      case round =>
        obtain ⟨k, hk, rfl, rfl, hall⟩ := hrel
        by_cases hlt : k < m
        · obtain ⟨ad, rfl, h1, h2⟩ := (H.out.ints.next hb1).at_ (k := k) (by rw [H.out.len]; exact hlt)
          have i0 : (0 : Int) ≤ (k : Int) := by omega
          have i1 : (k : Int) < (m : Int) := by omega
          have hw := Lib.hid (show allR (wiB cs) (k + 1) = isW (cs.getD k 0) (-1) 256 from by show (allR _ k && _) = _; rw [hall]; rfl)
          have hf := Lib.hid (show isW (cs.getD k 0) (-1) 256 = false → ckB l cs = 5 from fun e => by rw [hd.out, allR_no (f := wiB cs) hlt e]; rfl)
          have K2 := Lib.hid (isW_any (cs.getD k 0) (-1) 256)
          clear hall
          generalize isW (cs.getD k 0) (-1) 256 = b at *
          generalize cs.getD k 0 = z at *
          cases b
          · have hT := Lib.hid (hf.out rfl)
            go_wp2_with (go_at_call 66; (with_reducible refine (K2.out _).mono ?_); rintro x w2 ⟨rfl, rfl⟩)
            go_ret
            exact ⟨by rw [hT.out]; rfl, hb1⟩
          · go_wp2_with (go_at_call 66; (with_reducible refine (K2.out _).mono ?_); rintro x w1 ⟨rfl, rfl⟩)
            go_roundw
            case rel => exact ⟨k + 1, by omega, by go_num, by first | rfl | trivial, hw.out⟩
            case measure => simp [intOf]; omega
        · obtain rfl : k = m := by omega
          have hT := Lib.hid (show ckB l cs = 0 from by rw [hd.out, hall]; rfl)
          go_wp2_with fail
          go_ret
          exact ⟨by rw [hT.out]; rfl, hb1⟩
    · have hT := Lib.hid (show ckB l cs = 5 from by rw [hd.out, if_pos rfl, if_neg hl])
      have hl2 : ((m : Int) != (n : Int)) = true := by simp; omega
      have hl3 : ((m : Int) == (n : Int)) = false := by simp; omega
      go_enter Try.func47, Try.ntmps47
      go_wp2_with (go_at_call 17; (with_reducible refine K1.out.mono ?_); rintro y w1 ⟨rfl, hb1⟩)
      go_ret
      exact ⟨by rw [hT.out]; rfl, hb1⟩
  · have hT := Lib.hid (show ckB l cs = checkB l from by rw [hd.out, if_neg hc])
    have hc' : (checkB l == 0) = false := by simpa using hc
    have hc2 : (checkB l != 0) = true := by unfold bne; rw [hc']; rfl
    clear hd
    generalize checkB l = c at *
    clear hc
    go_enter Try.func47, Try.ntmps47
    go_wp2_with (go_at_call 17; (with_reducible refine K1.out.mono ?_); rintro y w1 ⟨rfl, hb1⟩)
    go_ret
    exact ⟨by rw [hT.out]; rfl, hb1⟩
end Go.Proofs.Ytodgkjmkjahkiaa
