/- The document's number. -/
import Derived.Test.YthmlibapjhmdbaaDoorR7
namespace Go.Proofs.YthmlibapjhmdbaaDoor
open Go.RowKit Go.Shelf

def isD (c : UInt8) : Bool := decide (48 ≤ c.toNat) && decide (c.toNat ≤ 57)
/-- The digits that a text begins with, four at most; their number. -/
def ld (l : List UInt8) : List UInt8 := (l.take 4).takeWhile isD
def numV (l : List UInt8) : Nat := l.foldl (fun n c => 10 * n + (c.toNat - 48)) 0
theorem tw_mem {p : UInt8 → Bool} : ∀ {l : List UInt8} {x : UInt8}, x ∈ l.takeWhile p → p x = true
  | [], x, h => by simp at h
  | y :: l, x, h => by
    by_cases hy : p y = true
    · rw [List.takeWhile_cons_of_pos hy] at h
      rcases List.mem_cons.1 h with h | h
      · rw [h]; exact hy
      · exact tw_mem h
    · rw [List.takeWhile_cons_of_neg hy] at h
      cases h
theorem ld_len (l : List UInt8) : (ld l).length ≤ 4 := by
  unfold ld
  have h1 := (List.takeWhile_prefix (p := isD) (l := l.take 4)).length_le
  have h2 := List.length_take (i := 4) (l := l)
  omega
theorem ld_pre (l : List UInt8) : ld l <+: l := by
  unfold ld
  exact (List.takeWhile_prefix isD).trans (List.take_prefix 4 l)
theorem ld_get {l : List UInt8} {j : Nat} (h : j < (ld l).length) : l[j]? = some (ld l)[j] := by
  obtain ⟨t, e⟩ := ld_pre l
  conv => lhs; rw [← e]
  rw [List.getElem?_append_left h, List.getElem?_eq_getElem h]
theorem ld_dig {l : List UInt8} {j : Nat} (h : j < (ld l).length) : isD (ld l)[j] = true := by
  have hm : (ld l)[j] ∈ (l.take 4).takeWhile isD := List.getElem_mem h
  exact tw_mem hm
theorem ld_stop {l : List UInt8} {c : UInt8} (h : l[(ld l).length]? = some c) (hc : isD c = true) : (ld l).length = 4 := by
  have h4 := ld_len l
  rcases Nat.lt_or_ge (ld l).length 4 with h1 | h1
  · exfalso
    have key : ∀ (a : List UInt8) (x : UInt8), a[(a.takeWhile isD).length]? = some x → isD x = false := by
      intro a
      induction a with
      | nil => intro x hx; simp at hx
      | cons y a ih =>
        intro x hx
        by_cases hy : isD y = true
        · rw [List.takeWhile_cons_of_pos hy, List.length_cons, List.getElem?_cons_succ] at hx
          exact ih x hx
        · rw [List.takeWhile_cons_of_neg hy] at hx
          simp at hx
          rw [← hx]
          simpa using hy
    have := key (l.take 4) c (by rw [List.getElem?_take, if_pos (show ((l.take 4).takeWhile isD).length < 4 from h1)]; exact h)
    rw [hc] at this
    cases this
  · omega
theorem numV_snoc (l : List UInt8) (c : UInt8) : numV (l ++ [c]) = 10 * numV l + (c.toNat - 48) := by simp [numV]
theorem numV_le : ∀ (j : Nat) (l : List UInt8), l.length = j → (∀ c ∈ l, isD c = true) → numV l < 10 ^ j
  | 0, l, h, _ => by rw [List.length_eq_zero_iff.1 h]; decide
  | j + 1, l, h, hd => by
    have hne : l ≠ [] := by intro e; rw [e] at h; cases h
    have e := (List.dropLast_concat_getLast hne).symm
    have hd2 := hd _ (List.getLast_mem hne)
    have ih := numV_le j l.dropLast (by rw [List.length_dropLast]; omega) (fun c hc => hd c ((List.dropLast_sublist l).subset hc))
    rw [e, numV_snoc, Nat.pow_succ]
    unfold isD at hd2
    simp only [Bool.and_eq_true, decide_eq_true_eq] at hd2
    omega
theorem take_ld {l : List UInt8} {j : Nat} (h : j < (ld l).length) : (ld l).take (j + 1) = (ld l).take j ++ [(ld l)[j]] := by
  rw [List.take_add_one, List.getElem?_eq_getElem h]; rfl
theorem numV_take (l : List UInt8) (j : Nat) : numV ((ld l).take j) < 10000 := by
  have h := numV_le ((ld l).take j).length _ rfl (fun c hc => tw_mem (List.mem_of_mem_take hc))
  have h1 : ((ld l).take j).length ≤ 4 := by
    have := ld_len l
    rw [List.length_take]
    omega
  exact Nat.lt_of_lt_of_le h (Nat.pow_le_pow_right (by decide) h1)
/-- A text's byte. -/
theorem byte_at {s : ByteArray} {at_ j : Nat} {c : UInt8} (h : ((by_ s).drop at_)[j]? = some c) : ∃ hlt : at_ + j < s.size, s[at_ + j] = c := by
  rw [List.getElem?_drop] at h
  obtain ⟨h1, h2⟩ := List.getElem?_eq_some_iff.1 h
  have h3 : at_ + j < s.size := by simpa [by_] using h1
  refine ⟨h3, ?_⟩
  rw [← h2]
  simp [by_]
  rfl
def numOf (l : List UInt8) : Int × Nat := if ld l = [] then (-1, 0) else ((numV (ld l) : Nat), (ld l).length)

set_option maxRecDepth 100000 in
set_option maxHeartbeats 1000000 in
theorem number_any (s : ByteArray) (at_ : Nat) (w : World) (hs : s.size ≤ 200) (ha : at_ ≤ 201) :
    Calls Tryd.prog 43 #[.string s, .int .i64 at_] w fun e w' => e = .returned (.tuple #[.int .i64 (numOf ((by_ s).drop at_)).1, .int .i64 (at_ + (numOf ((by_ s).drop at_)).2 : Nat)]) ∧ w = w' := by
  obtain ⟨l, hl⟩ : ∃ l, l = (by_ s).drop at_ := ⟨_, rfl⟩
  rw [← hl]
  have HL := Lib.hid hl
  clear hl
  have h4 := ld_len l
  go_enter Tryd.func43, Tryd.ntmps43
  go_wp2_with fail
  go_loop [6, 7] (fun nv i => ∃ j : Nat, j ≤ (ld l).length ∧ i = .int .i64 (at_ + j : Nat) ∧ nv = .int .i64 (numV ((ld l).take j) : Nat)) (fun _ i => 300 - (intOf i).toNat)
  case atStart => exact ⟨0, Nat.zero_le _, rfl, rfl⟩
  case round =>
    obtain ⟨j, hj, rfl, rfl⟩ := hrel
    have hnv := numV_take l j
    obtain ⟨y, hy⟩ : ∃ y, at_ + j = y := ⟨_, rfl⟩
    have HY := Lib.hid hy
    rw [hy]
    by_cases hlt : j < (ld l).length
    · obtain ⟨c, hcd⟩ : ∃ c, c = (ld l)[j] := ⟨_, rfl⟩
      have hg := ld_get hlt
      have hd := ld_dig hlt
      have HT : Hid (numV ((ld l).take (j + 1)) = 10 * numV ((ld l).take j) + ((ld l)[j].toNat - 48)) := by
        show _ = _; rw [take_ld hlt, numV_snoc]
      rw [← hcd] at hg hd HT
      rw [HL.out] at hg
      obtain ⟨hi, hc⟩ := byte_at hg
      clear hg hcd
      unfold isD at hd
      simp only [Bool.and_eq_true, decide_eq_true_eq] at hd
      have hix : ∀ W, (Instr.index 9 (.string s) (.int .i64 (y : Int))).run Tryd.prog W = .ok (.int .u8 (c.toNat : Nat)) W := by
        intro W
        have hi2 : y < s.size := by omega
        rw [run_index_string W 9 s .i64 (y : Int) Tryd.underlying9, dif_pos ⟨by omega, by omega⟩]
        subst hy
        simp only [Int.toNat_natCast, hc]
      have i1 : (y : Int) < (s.size : Int) := by omega
      have i2 : (y : Int) < (at_ : Int) + 4 := by omega
      clear hy hc hi
      generalize numV ((ld l).take j) = v at *
      generalize c.toNat = d at *
      have t1 : decide ((48 : Int) ≤ (d : Int)) = true := by simp; omega
      have t2 : decide ((d : Int) ≤ (57 : Int)) = true := by simp; omega
      have e1 : IntKind.i64.wrap (10 * (v : Int)) = 10 * (v : Int) := IntWalk.i64_in _ (by omega)
      have e2 : IntKind.i64.wrap (10 * (v : Int) + (d : Int)) = 10 * (v : Int) + (d : Int) := IntWalk.i64_in _ (by omega)
      have e3 : IntKind.i64.wrap (10 * (v : Int) + (d : Int) - 48) = 10 * (v : Int) + (d : Int) - 48 := IntWalk.i64_in _ (by omega)
      go_wp2_with fail
      go_round
      case rel => exact ⟨j + 1, by omega, by have := HY.out; go_num, by rw [HT.out]; go_num⟩
      case measure => simp [intOf]; omega
    · obtain rfl : j = (ld l).length := by omega
      have hIX : Hid (y < s.size → ∃ c : Nat, (∀ W, (Instr.index 9 (.string s) (.int .i64 (y : Int))).run Tryd.prog W = .ok (.int .u8 (c : Nat)) W) ∧ (48 ≤ c → c ≤ 57 → (ld l).length = 4)) := by
        intro hlt2
        refine ⟨s[y].toNat, fun W => ?_, fun a b => ?_⟩
        · rw [run_index_string W 9 s .i64 (y : Int) Tryd.underlying9, dif_pos ⟨by omega, by omega⟩]
          simp only [Int.toNat_natCast]
        · refine ld_stop (c := s[y]) ?_ (by unfold isD; simp [a, b])
          rw [HL.out, List.getElem?_drop, ← HL.out]
          subst hy
          rw [show (by_ s)[at_ + (ld l).length]? = some s[at_ + (ld l).length] by
            have h3 : at_ + (ld l).length < (by_ s).length := by simpa [by_] using hlt2
            rw [List.getElem?_eq_getElem h3]
            simp [by_]
            rfl]
      have HV : Hid (numV ((ld l).take (ld l).length) = numV (ld l)) := by show _ = _; rw [List.take_length]
      rw [HV.out] at hnv ⊢
      by_cases hJ : ld l = []
      · have HO : Hid (numOf l = (-1, 0)) := by show _ = _; unfold numOf; rw [if_pos hJ]
        have hJ0 : (ld l).length = 0 := by rw [hJ]; rfl
        have tE : ((y : Int) == (at_ : Int)) = true := by rw [beq_iff_eq]; omega
        generalize (ld l).length = J at *
        generalize numV (ld l) = v at *
        clear hJ
        by_cases hsz : s.size ≤ y
        · have i1 : decide ((y : Int) < (s.size : Int)) = false := by simp; omega
          clear hIX
          go_wp2_with fail
          exact bodyPost_ret (results_tmp2 rfl _ _ _) rfl ⟨by rw [HO.out]; rfl, rfl⟩
        · obtain ⟨c, hix, hst⟩ := hIX.out (by omega)
          have i1 : (y : Int) < (s.size : Int) := by omega
          clear hIX
          by_cases h1 : c < 48
          · have t1 : decide ((48 : Int) ≤ (c : Int)) = false := by simp; omega
            clear hst
            go_wp2_with fail
            exact bodyPost_ret (results_tmp2 rfl _ _ _) rfl ⟨by rw [HO.out]; rfl, rfl⟩
          · have t1 : decide ((48 : Int) ≤ (c : Int)) = true := by simp; omega
            by_cases h2 : 57 < c
            · have t2 : decide ((c : Int) ≤ (57 : Int)) = false := by simp; omega
              clear hst
              go_wp2_with fail
              exact bodyPost_ret (results_tmp2 rfl _ _ _) rfl ⟨by rw [HO.out]; rfl, rfl⟩
            · have t2 : decide ((c : Int) ≤ (57 : Int)) = true := by simp; omega
              have h5 := hst (by omega) (by omega)
              clear hst
              have i2 : decide ((y : Int) < (at_ : Int) + 4) = false := by simp; omega
              go_wp2_with fail
              exact bodyPost_ret (results_tmp2 rfl _ _ _) rfl ⟨by rw [HO.out]; rfl, rfl⟩
      · have HO : Hid (numOf l = (((numV (ld l) : Nat) : Int), (ld l).length)) := by show _ = _; unfold numOf; rw [if_neg hJ]
        have hJ0 : 0 < (ld l).length := List.length_pos_iff.2 hJ
        have tE : ((y : Int) == (at_ : Int)) = false := by rw [beq_eq_false_iff_ne]; omega
        generalize (ld l).length = J at *
        generalize numV (ld l) = v at *
        clear hJ
        by_cases hsz : s.size ≤ y
        · have i1 : decide ((y : Int) < (s.size : Int)) = false := by simp; omega
          clear hIX
          go_wp2_with fail
          exact bodyPost_ret (results_tmp2 rfl _ _ _) rfl ⟨by rw [HO.out]; show _ = Ending.returned (.tuple #[.int .i64 (v : Int), .int .i64 ((at_ : Int) + (J : Int))]); rw [show (at_ : Int) + (J : Int) = (y : Int) by have := HY.out; omega]; rfl, rfl⟩
        · obtain ⟨c, hix, hst⟩ := hIX.out (by omega)
          have i1 : (y : Int) < (s.size : Int) := by omega
          clear hIX
          by_cases h1 : c < 48
          · have t1 : decide ((48 : Int) ≤ (c : Int)) = false := by simp; omega
            clear hst
            go_wp2_with fail
            exact bodyPost_ret (results_tmp2 rfl _ _ _) rfl ⟨by rw [HO.out]; show _ = Ending.returned (.tuple #[.int .i64 (v : Int), .int .i64 ((at_ : Int) + (J : Int))]); rw [show (at_ : Int) + (J : Int) = (y : Int) by have := HY.out; omega]; rfl, rfl⟩
          · have t1 : decide ((48 : Int) ≤ (c : Int)) = true := by simp; omega
            by_cases h2 : 57 < c
            · have t2 : decide ((c : Int) ≤ (57 : Int)) = false := by simp; omega
              clear hst
              go_wp2_with fail
              exact bodyPost_ret (results_tmp2 rfl _ _ _) rfl ⟨by rw [HO.out]; show _ = Ending.returned (.tuple #[.int .i64 (v : Int), .int .i64 ((at_ : Int) + (J : Int))]); rw [show (at_ : Int) + (J : Int) = (y : Int) by have := HY.out; omega]; rfl, rfl⟩
            · have t2 : decide ((c : Int) ≤ (57 : Int)) = true := by simp; omega
              have h5 := hst (by omega) (by omega)
              clear hst
              have i2 : decide ((y : Int) < (at_ : Int) + 4) = false := by simp; omega
              go_wp2_with fail
              exact bodyPost_ret (results_tmp2 rfl _ _ _) rfl ⟨by rw [HO.out]; show _ = Ending.returned (.tuple #[.int .i64 (v : Int), .int .i64 ((at_ : Int) + (J : Int))]); rw [show (at_ : Int) + (J : Int) = (y : Int) by have := HY.out; omega]; rfl, rfl⟩
end Go.Proofs.YthmlibapjhmdbaaDoor
