/- Messages come in the order in which they were sent. -/
import Derived.Test.YtlhfijjjfolldaaA9
namespace Go.Proofs.Ytlhfijjjfolldaa
open Go.RowKit Go.Maps

theorem plc0 (l : List Str) : plc l 0 = 0 := by simp [plc]
theorem tk0 {l : List Str} {i : Nat} {x : Str} (h : l[i]? = some x) : tkS (l.drop i) 0 = x ∧ tkL (l.drop i) 0 = l.drop (i + 1) ∧ (l.drop i).isEmpty = false := by
  refine ⟨?_, ?_, ?_⟩
  · unfold tkS
    rw [plc0, List.getElem?_drop, Nat.add_zero, h]
    rfl
  · unfold tkL
    rw [plc0]
    have := (List.getElem?_eq_some_iff.1 h).1
    rw [List.drop_eq_getElem_cons this]
    rfl
  · have := (List.getElem?_eq_some_iff.1 h).1
    rw [List.drop_eq_getElem_cons this]
    rfl
set_option maxRecDepth 100000 in
set_option maxHeartbeats 4000000 in
theorem order_law (HT : TwiceC) (A : Option Addr) (n cap : Nat) (zs : List Str) (m : Int) (w : World) (h : Tl w A n cap zs) : Calls Try.prog 6 #[.slice A n cap, .int .i64 m] w fun e w' => e = .returned (.bool true) ∧ Below w.heap.size w w' := by
  have KL := Lib.hid (live_any HT)
  have H := Lib.hid h
  have hnm := h.most
  unfold maxLen at hnm
  clear HT h
  by_cases hm : m < 1 ∨ 1000 < m
  · have HM := Lib.hid hm
    clear hm
    go_enter Try.func6, Try.ntmps6
    go_wp2_with fail
    refine (new_no m _ HM.out).mono ?_
    rintro _ w1 ⟨rfl, rfl⟩
    go_wp2_with fail
    refine (rnew_no m _ HM.out).mono ?_
    rintro _ w1 ⟨rfl, rfl⟩
    go_wp2_with fail
    refine (KL.out _).mono ?_
    rintro _ w3 ⟨rfl, b3⟩
    go_wp2_with fail
    go_ret
    exact ⟨rfl, b3⟩
  have h1 : 1 ≤ m := by omega
  have h2 : m ≤ 1000 := by omega
  clear hm
  by_cases hn : n ≤ 100
  · have t0 : decide ((100 : Int) < (n : Int)) = false := decide_eq_false (by omega)
    go_enter Try.func6, Try.ntmps6
    go_wp2_with fail
    refine (new_ok m _ h1 h2).mono ?_
    rintro _ w1 ⟨rfl, n1, b1⟩
    obtain ⟨p, hp⟩ : ∃ p, p = w.heap.size := ⟨_, rfl⟩
    rw [← hp] at n1
    have HP : Hid (w.heap.size ≤ p) := Lib.hid (by omega)
    rw [← hp]
    have B1 := Lib.hid b1
    have N1 := Lib.hid n1
    have H1 := Lib.hid (H.out.next b1)
    clear n1 b1 hp
    go_wp2_with fail
    obtain ⟨d, hd⟩ : ∃ d, d = ldN [] m zs := ⟨_, rfl⟩
    have hd2 : d = min n m.toNat := by rw [hd, ldN, H.out.len]; rfl
    refine (send_any N1.out A n cap zs H1.out.at_ H1.out.len (by omega) H1.out.le H1.out.no (by omega) (by omega)).mono ?_
    rw [← hd]
    rintro _ w2 ⟨rfl, v2, n2, t2⟩
    have N2 : Hid (NtAt w2 p m v2 (zs.take d) (0 + (zs.length - d : Nat))) := Lib.hid n2
    have B2 := Lib.hid (B1.out.trans (t2.below N1.out HP.out))
    have H2 := Lib.hid (H.out.next B2.out)
    clear n2 t2 hd
    have hmin : (if m < (n : Int) then m else (n : Int)) = (d : Int) := by
      split <;> omega
    have e3 : (0 : Int) + ((zs.length - d : Nat) : Int) = (n : Int) - (d : Int) := by rw [H.out.len]; omega
    have KO := Lib.hid (lost_any N2.out)
    rw [e3] at KO
    have hdn : d ≤ n := by omega
    clear e3 hd2
    go_wp2_with fail
    refine KO.out.mono ?_
    rintro _ w3 ⟨rfl, rfl⟩
    clear hmin
    have HZ := Lib.hid (show ∀ i x, (zs.take d)[i]? = some x → zs[i]? = some x from fun i x e => by
      rw [List.getElem?_take] at e
      split at e
      · exact e
      · cases e)
    have HLen := Lib.hid (show (zs.take d).length = d from by rw [List.length_take, H.out.len]; omega)
    clear KO
    obtain ⟨k, N2⟩ : ∃ k, Hid (NtAt w2 p m v2 (zs.take d) k) := ⟨_, N2⟩
    generalize zs.take d = L at *
    go_wp2_with fail
    go_loopg [7] d (fun g s7 wr => ∃ i : Nat, i + g = d ∧ s7 = .int .i64 i ∧ Hid (Below w.heap.size w wr) ∧ ∃ v, Hid (NtAt wr p m v (L.drop i) k))
    case atStart => exact ⟨0, by omega, rfl, B2, v2, N2⟩
    case round =>
      obtain ⟨i, hi, rfl, B3, v3, N3⟩ := hrel
      cases gk with
      | zero =>
        obtain rfl : i = d := by omega
        have hlt : ¬ ((i : Int) < (i : Int)) := by omega
        have HE := Lib.hid (show L.drop i = [] from List.drop_of_length_le (by have := HLen.out; omega))
        go_wp2_with fail
        refine (take_any N3.out 0).mono ?_
        rintro _ w4 ⟨rfl, v4, n4, t4⟩
        have B4 := Lib.hid (B3.out.trans (t4.below N3.out HP.out))
        rw [HE.out]
        rw [show (!([] : List Str).isEmpty) = false from rfl]
        clear n4 t4
        go_wp2_with fail
        refine (KL.out _).mono ?_
        rintro _ w5 ⟨rfl, b5⟩
        go_wp2_with fail
        go_ret
        exact ⟨rfl, B4.out.trans (b5.mono B4.out.size)⟩
      | succ g1 =>
        have p0 : (0 : Int) ≤ (i : Int) := by omega
        have p1 : (i : Int) < (n : Int) := by omega
        have p2 : (i : Int) < (d : Int) := by omega
        obtain ⟨x, ex⟩ : ∃ x, L[i]? = some x := ⟨_, List.getElem?_eq_getElem (by have := HLen.out; omega)⟩
        obtain ⟨e1, e2, e3⟩ := tk0 ex
        have E2 := Lib.hid e2
        obtain ⟨a, rfl, ha, ca0⟩ := H.out.at_.at_ (HZ.out _ _ ex)
        have CA := Lib.hid (fun V (hV : Below w.heap.size w V) => (hV.cell (p := a.add i) (by rw [block_add]; exact ha)).trans ca0)
        clear ca0 ha
        have KT := Lib.hid (take_any N3.out 0)
        rw [e1, e3] at KT
        clear e1 e2 e3 ex
        go_wp2_with fail
        refine KT.out.mono ?_
        rintro _ w4 ⟨rfl, v4, n4, t4⟩
        have B4 := Lib.hid (B3.out.trans (t4.below N3.out HP.out))
        have N4 := Lib.hid n4
        have ca4 := CA.out _ B4.out
        have t9 := str_eq x
        clear n4 t4 KT
        go_wp2_with fail
        go_roundg g1
        case measure => omega
        case rel => exact ⟨i + 1, by omega, by go_num, B4, v4, by rw [← E2.out]; exact N4⟩
  · have t0 : decide ((100 : Int) < (n : Int)) = true := decide_eq_true (by omega)
    go_enter Try.func6, Try.ntmps6
    go_wp2_with fail
    refine (new_ok m _ h1 h2).mono ?_
    rintro _ w1 ⟨rfl, n1, b1⟩
    have B1 := Lib.hid b1
    clear n1 b1
    go_wp2_with fail
    refine (KL.out _).mono ?_
    rintro _ w3 ⟨rfl, b3⟩
    go_wp2_with fail
    go_ret
    exact ⟨rfl, bmore B1.out b3⟩
end Go.Proofs.Ytlhfijjjfolldaa
