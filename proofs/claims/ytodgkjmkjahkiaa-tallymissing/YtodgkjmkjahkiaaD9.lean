/- dag: Over. -/
import Derived.Test.YtodgkjmkjahkiaaD8
import Derived.Laws.Small
namespace Go.Proofs.Ytodgkjmkjahkiaa
open Go.RowKit

def mxB (m c : Int) : Int := if c = 256 then m else if c > m then c else m
def ovY (l : List St) (cs : List Int) : Bool := (ckB l cs == 0) && !hasB (settleB l cs) (-1)
def ovN (l : List St) (cs : List Int) : Int := if ovY l cs then (settleB l cs).foldl mxB 0 else 0
theorem stl_len {l : List St} {cs : List Int} : (stlL l cs).length ≤ 16 := by
  unfold stlL
  split
  · rename_i h
    have h1 := ck_ok h
    have h2 := may_len (check_ok h1.1).1
    unfold settleB
    rw [setl_len]
    omega
  · exact Nat.zero_le _
theorem fold_snoc {F : List Int} {i : Nat} (h : i < F.length) : (F.take (i + 1)).foldl mxB 0 = mxB ((F.take i).foldl mxB 0) (F.getD i 0) := by
  rw [List.take_add_one, List.getElem?_eq_getElem h, Option.toList_some, List.foldl_append]
  simp [List.getD, h]
set_option maxRecDepth 100000 in
set_option maxHeartbeats 2000000 in
theorem over_any (A C : Option Addr) (n cap m cc : Nat) (l : List St) (cs : List Int) (w : World) (h : Sl w A n cap l) (hC : Il w C m cs) :
    Calls Try.prog 26 #[.slice A n cap, .slice C m cc] w fun e w' => e = .returned (.tuple #[.int .i64 (ovN l cs), .bool (ovY l cs)]) ∧ Below w.heap.size w w' := by
  have K1 := Lib.hid (settle_any A C n cap m cc l cs w h hC)
  have hY := Lib.hid (show ovY l cs = ((ckB l cs == 0) && !hasB (settleB l cs) (-1)) from rfl)
  have hN := Lib.hid (show ovN l cs = if ovY l cs then (settleB l cs).foldl mxB 0 else 0 from rfl)
  have hF := Lib.hid (fun e : ckB l cs = 0 => (show stlL l cs = settleB l cs from by unfold stlL; rw [if_pos e]))
  have hlen := stl_len (l := l) (cs := cs)
  clear h hC
  generalize ovY l cs = oy at *
  generalize ovN l cs = on at *
  generalize stlL l cs = F at *
  by_cases hk : ckB l cs = 0
  · have e := hF.out hk
    subst e
    rw [hk] at K1 hY
    have K2 := Lib.hid (fun V A1 cap1 (h : IntsAt V A1 (settleB l cs)) => has_any A1 (settleB l cs).length cap1 (settleB l cs) (-1) V h rfl (by unfold maxLen; omega))
    generalize settleB l cs = F at *
    clear hk hF
    generalize hasB F (-1) = b at *
    cases b
    · have e : oy = true := by rw [hY.out]; rfl
      subst e
      go_enter Try.func26, Try.ntmps26
      go_wp2_with (first
        | (go_at_call 24; (with_reducible refine K1.out.mono ?_); rintro y w1 ⟨v, rfl, hrow, hb1⟩; obtain ⟨A1, cap1, rfl⟩ := own_form hrow; have hI := Lib.hid (ints_iv rfl hrow))
        | (go_at_call 54; (with_reducible refine (K2.out _ _ _ hI.out).mono ?_); rintro y w1 ⟨rfl, rfl⟩))
      go_loopg [8, 25] F.length (fun g s8 s25 wr => ∃ i : Nat, i + g = F.length ∧ s8 = .int .i64 ((F.take i).foldl mxB 0) ∧ s25 = .int .i64 i ∧ wr = w1)
      case atStart => exact ⟨0, by omega, rfl, rfl, rfl⟩
      case round =>
        obtain ⟨i, hig, rfl, rfl, rfl⟩ := hrel
        cases gk with
        | zero =>
          have hlt : ¬ ((i : Int) < (F.length : Int)) := by omega
          have HE := Lib.hid (show on = (F.take i).foldl mxB 0 from by rw [hN.out, (show i = F.length from by omega), List.take_length]; rfl)
          go_wp2
          go_ret2
          exact ⟨by rw [HE.out]; rfl, hb1⟩
        | succ g =>
          have i0 : (0 : Int) ≤ (i : Int) := by omega
          have i1 : (i : Int) < (F.length : Int) := by omega
          obtain ⟨ad, rfl, h1, h2⟩ := hI.out.at_ (k := i) (by omega)
          have HS := Lib.hid (fold_snoc (F := F) (i := i) (by omega))
          generalize (F.take i).foldl mxB 0 = mm at *
          generalize F.getD i 0 = c at *
          by_cases hc : c = 256
          · subst hc
            have HS2 := Lib.hid (show (F.take (i + 1)).foldl mxB 0 = mm from by rw [HS.out]; rfl)
            go_wp2
            go_roundg g
            case measure => omega
            case rel => exact ⟨i + 1, by omega, by rw [HS2.out], by go_num, rfl⟩
          · have hc2 : (c == 256) = false := by simpa using hc
            have hc3 : (c != 256) = true := by unfold bne; rw [hc2]; rfl
            have HS2 := Lib.hid (show (F.take (i + 1)).foldl mxB 0 = if c > mm then c else mm from by rw [HS.out]; unfold mxB; rw [if_neg hc])
            clear hc
            by_cases hgt : c > mm
            · have HS3 := Lib.hid (show (F.take (i + 1)).foldl mxB 0 = c from by rw [HS2.out, if_pos hgt])
              go_wp2
              go_roundg g
              case measure => omega
              case rel => exact ⟨i + 1, by omega, by rw [HS3.out], by go_num, rfl⟩
            · have HS3 := Lib.hid (show (F.take (i + 1)).foldl mxB 0 = mm from by rw [HS2.out, if_neg hgt])
              go_wp2
              go_roundg g
              case measure => omega
              case rel => exact ⟨i + 1, by omega, by rw [HS3.out], by go_num, rfl⟩
    · have e : oy = false := by rw [hY.out]; rfl
      subst e
      have HE := Lib.hid (show on = 0 from by rw [hN.out]; rfl)
      go_enter Try.func26, Try.ntmps26
      go_wp2_with (first
        | (go_at_call 24; (with_reducible refine K1.out.mono ?_); rintro y w1 ⟨v, rfl, hrow, hb1⟩; obtain ⟨A1, cap1, rfl⟩ := own_form hrow; have hI := Lib.hid (ints_iv rfl hrow))
        | (go_at_call 54; (with_reducible refine (K2.out _ _ _ hI.out).mono ?_); rintro y w1 ⟨rfl, rfl⟩))
      go_ret2
      exact ⟨by rw [HE.out]; rfl, hb1⟩
  · have hc' : (ckB l cs == 0) = false := by simpa using hk
    have hc2 : (ckB l cs != 0) = true := by unfold bne; rw [hc']; rfl
    rw [hc'] at hY
    have e : oy = false := by rw [hY.out]; rfl
    subst e
    have HE := Lib.hid (show on = 0 from by rw [hN.out]; rfl)
    generalize ckB l cs = c at *
    clear hk hF
    go_enter Try.func26, Try.ntmps26
    go_wp2_with (go_at_call 24; (with_reducible refine K1.out.mono ?_); rintro y w1 ⟨v, rfl, hrow, hb1⟩; obtain ⟨A1, cap1, rfl⟩ := own_form hrow)
    go_ret2
    exact ⟨by rw [HE.out]; rfl, hb1⟩
end Go.Proofs.Ytodgkjmkjahkiaa
