/- coreOf. -/
import Derived.Test.YthmlibapjhmdbaaDoorW13
namespace Go.Proofs.YthmlibapjhmdbaaDoor
open Go.RowKit Go.Shelf

/-- A number's text. -/
def dec (n : Nat) : ByteArray := ⟨(Lib.decDigits n).toArray⟩
/-- The core whose number a text is. -/
def coreNum (s : ByteArray) : Option Nat :=
  match Lib.atoiAll s.data.toList with
  | .ok v => if 0 ≤ v ∧ v < 256 ∧ ((dec v.toNat).toList == s.toList) = true then some v.toNat else none
  | _ => none
theorem below_or {w w1 : World} (h1 : w1 = w ∨ ∃ t, w1 = Lib.bytesWorld w 5 t) : Below w.heap.size w w1 := by
  rcases h1 with rfl | ⟨t, rfl⟩
  · exact Below.refl _ _
  · exact below_bytes _ _

set_option maxRecDepth 100000 in
set_option maxHeartbeats 400000 in
theorem coreOf_num (s : ByteArray) (v : Nat) (t : Bool) (w : World) (G : Glob w) (hs : s.size ≤ 2048) (hv : v < 256) (ha : Lib.atoiAll s.data.toList = .ok (v : Int)) (hq : ((dec v).toList == s.toList) = t) :
    Calls Tryd.prog 49 #[.string s] w fun e w' => e = .returned (.tuple #[.int .i64 (if t then v else 0 : Nat), .bool t]) ∧ Below w.heap.size w w' := by
  have HA := Lib.hid (Tryd.strconv_Atoi_ok s (by omega) v ha w)
  clear ha
  go_enter Tryd.func49, Tryd.ntmps49
  go_wp2_with fail
  refine HA.out.mono ?_
  rintro e w1 ⟨rfl, h1⟩
  have hb1 := below_or h1
  have G1 := G.next hb1
  clear h1
  go_wp2_with fail
  refine (isCore_yes _ _ (by omega) (by omega)).mono ?_
  rintro e w2 ⟨rfl, rfl⟩
  go_wp2_with fail
  refine (itoa_any v _ G1 hv).mono ?_
  rintro e w2 ⟨rfl, hb2⟩
  rw [show (⟨(Lib.decDigits v).toArray⟩ : ByteArray) = dec v from rfl]
  have hb := bmore hb1 hb2
  clear hb1 hb2
  cases t
  · go_wp2_with fail
    refine bodyPost_ret (results_tmp2 rfl _ _ _) rfl ⟨rfl, hb⟩
  · go_wp2_with fail
    refine bodyPost_ret (results_tmp2 rfl _ _ _) rfl ⟨rfl, hb⟩
set_option maxRecDepth 100000 in
set_option maxHeartbeats 400000 in
theorem coreOf_out (s : ByteArray) (v : Int) (w : World) (hs : s.size ≤ 2048) (hv : v < 0 ∨ 256 ≤ v) (ha : Lib.atoiAll s.data.toList = .ok v) :
    Calls Tryd.prog 49 #[.string s] w fun e w' => e = .returned (.tuple #[.int .i64 0, .bool false]) ∧ Below w.heap.size w w' := by
  have HA := Lib.hid (Tryd.strconv_Atoi_ok s (by omega) v ha w)
  have HV := Lib.hid hv
  clear ha hv
  go_enter Tryd.func49, Tryd.ntmps49
  go_wp2_with fail
  refine HA.out.mono ?_
  rintro e w1 ⟨rfl, h1⟩
  have hb1 := below_or h1
  clear h1
  go_wp2_with fail
  refine (isCore_no _ _ HV.out).mono ?_
  rintro e w2 ⟨rfl, rfl⟩
  go_wp2_with fail
  refine bodyPost_ret (results_tmp2 rfl _ _ _) rfl ⟨rfl, hb1⟩
set_option maxRecDepth 100000 in
set_option maxHeartbeats 400000 in
theorem coreOf_err (s : ByteArray) (w : World) (n : Int) (h : Calls Tryd.prog 52 #[.string s] w fun e w' => ∃ N, e = .returned (.tuple #[.int .i64 n, .iface 88 (.pointer (some ⟨N, 0, none⟩))]) ∧ Below w.heap.size w w') :
    Calls Tryd.prog 49 #[.string s] w fun e w' => e = .returned (.tuple #[.int .i64 0, .bool false]) ∧ Below w.heap.size w w' := by
  have HA := Lib.hid h
  clear h
  go_enter Tryd.func49, Tryd.ntmps49
  go_wp2_with fail
  refine HA.out.mono ?_
  rintro e w1 ⟨N, rfl, hb1⟩
  go_wp2_with fail
  refine bodyPost_ret (results_tmp2 rfl _ _ _) rfl ⟨rfl, hb1⟩
theorem coreOf_any (s : ByteArray) (w : World) (G : Glob w) (hs : s.size ≤ 2048) :
    Calls Tryd.prog 49 #[.string s] w fun e w' => e = .returned (.tuple #[.int .i64 ((coreNum s).getD 0 : Nat), .bool (coreNum s).isSome]) ∧ Below w.heap.size w w' := by
  unfold coreNum
  match ha : Lib.atoiAll s.data.toList with
  | .ok v =>
    by_cases hv : 0 ≤ v ∧ v < 256
    · obtain ⟨n, rfl⟩ := Int.eq_ofNat_of_zero_le hv.1
      have := coreOf_num s n ((dec n).toList == s.toList) w G hs (by omega) ha rfl
      by_cases hq : ((dec n).toList == s.toList) = true
      · rw [hq] at this
        simp only [Int.toNat_natCast]
        rw [if_pos ⟨hv.1, hv.2, hq⟩]
        exact this
      · rw [show ((dec n).toList == s.toList) = false by simpa using hq] at this
        simp only [Int.toNat_natCast]
        rw [if_neg (fun h => hq h.2.2)]
        exact this
    · simp only
      rw [if_neg (fun h => hv ⟨h.1, h.2.1⟩)]
      exact coreOf_out s v w hs (by omega) ha
  | .syntax =>
    obtain ⟨te, pe, hv⟩ := G.syn
    refine coreOf_err s w 0 ((Tryd.strconv_Atoi_syntax s (by omega) ha _ w hv (.inr ⟨te, pe, rfl⟩)).mono ?_)
    rintro e w' ⟨N, rfl, _, _, hb⟩
    exact ⟨N, rfl, hb⟩
  | .range =>
    obtain ⟨te, pe, hv⟩ := G.rng
    refine coreOf_err s w (Lib.atoiSat s.data.toList) ((Tryd.strconv_Atoi_range s (by omega) ha _ w hv (.inr ⟨te, pe, rfl⟩)).mono ?_)
    rintro e w' ⟨N, rfl, _, _, hb⟩
    exact ⟨N, rfl, hb⟩
end Go.Proofs.YthmlibapjhmdbaaDoor
