/- TimerMoves, walked. -/
import Derived.Test.YtinbaepligploaaN1
namespace Go.Proofs.Ytinbaepligploaa
open Go.RowKit Go.Shelf

theorem due_left_len (now : Int) : ∀ S : List Dl, (dueL S now).length + (leftL S now).length = S.length
  | [] => rfl
  | d :: S => by
    have ih := due_left_len now S
    unfold dueL leftL at *
    rw [List.filter_cons, List.filter_cons]
    by_cases h : d.2 ≤ now
    · have h' : ¬now < d.2 := by omega
      simp [h, h']
      omega
    · have h' : now < d.2 := by omega
      simp [h, h']
      omega
theorem del_len_eq {id : Int} {S : List Dl} (hi : Ids S) (h : hasI id S = true) : (del id S).length + 1 = S.length := by
  obtain ⟨d, hd, rfl⟩ := has_iff.1 h
  obtain ⟨k, hk⟩ := List.getElem?_of_mem hd
  have hlt := (List.getElem?_eq_some_iff.1 hk).1
  have e : nt S k = d := by rw [nt_get hlt] at hk; injection hk
  have := (set_perm hlt hi (0, 0)).length_eq
  rw [e] at this
  simpa using this.symm
/-- Behind a deadline set anew. -/
structure Mv (zs : List Int) (n : Nat) (id to : Int) (S : List Dl) : Prop where
  mem : (id, to) ∈ S
  all : ∀ d ∈ S, d = (id, to) ∨ ∃ j : Nat, j < n ∧ d = ((j : Int), zs.getD j 0) ∧ ((j : Int) == id) = false
theorem mv_set {zs : List Int} {n : Nat} {S : List Dl} (h : Fl zs n S) {id to : Int} (h0 : 0 ≤ id) (h1 : id < (n : Int)) (hn : n ≤ 100) (ho : okN to = true) :
    setE S id to = 0 ∧ (setS S id to).length = n ∧ Mv zs n id to (setS S id to) ∧ atE (setS S id to) id = (to, true) := by
  have hh : hasI id S = true := by rw [h.has]; simp [h0, h1]
  have hid : okN id = true := by unfold okN; simp; omega
  have e := setE_has (S := S) (id := id) (t := to) (by rw [hid, ho]; rfl) hh
  have hok := ok_set h.ok id to
  have hm : (id, to) ∈ setS S id to := by rw [setS_ok e]; exact (ins_mem _ _ _).2 (.inl rfl)
  refine ⟨e, ?_, ⟨hm, fun d hd => ?_⟩, ?_⟩
  · rw [setS_ok e, ins_len, del_len_eq h.ok.ids hh, h.len]
  · rw [setS_ok e, ins_mem] at hd
    rcases hd with rfl | hd
    · exact .inl rfl
    · obtain ⟨h2, h3⟩ := del_mem.1 hd
      obtain ⟨j, hj, rfl⟩ := (h.mem d).1 h2
      exact .inr ⟨j, hj, rfl, by simpa using h3⟩
  · unfold atE
    have := find_key hok.ids hm
    simp at this
    rw [this]
theorem mv_early {zs : List Int} {n : Nat} {id to : Int} {S : List Dl} (h : Mv zs n id to S) (i : Nat) (hi : i < (dueL S (to - 1)).length) :
    ∃ j : Nat, j < n ∧ ((dueL S (to - 1)).map (·.1)).getD i 0 = (j : Int) ∧ zs.getD j 0 < to ∧ ((j : Int) == id) = false := by
  have hm := nt_mem hi
  have e1 : ((dueL S (to - 1)).map (·.1)).getD i 0 = (nt (dueL S (to - 1)) i).1 := by
    rw [nt_eq hi]
    simp [List.getD, hi]
  rw [e1]
  generalize nt (dueL S (to - 1)) i = x at *
  unfold dueL at hm
  rw [List.mem_filter] at hm
  obtain ⟨h1, h2⟩ := hm
  simp at h2
  rcases h.all x h1 with rfl | ⟨j, hj, rfl, hne⟩
  · simp at h2; omega
  · exact ⟨j, hj, rfl, by simp [List.getD] at h2 ⊢; omega, hne⟩
theorem mv_left {zs : List Int} {n : Nat} {id to : Int} {S : List Dl} (h : Mv zs n id to S) : (id, to) ∈ leftL S (to - 1) := by
  unfold leftL
  rw [List.mem_filter]
  exact ⟨h.mem, by simp; omega⟩
theorem mv_due {id to : Int} {S : List Dl} (h : (id, to) ∈ S) : ((dueL S to).map (·.1)).any (fun x => x == id) = true := by
  rw [List.any_eq_true]
  refine ⟨id, List.mem_map.2 ⟨(id, to), ?_, rfl⟩, by simp⟩
  unfold dueL
  rw [List.mem_filter]
  exact ⟨h, by simp⟩
/-- Has it been found among the first? -/
def fnd (zs : List Int) (id : Int) (i : Nat) : Bool := (zs.take i).any fun x => x == id
theorem fnd_succ {zs : List Int} {id : Int} {i : Nat} (h : i < zs.length) : fnd zs id (i + 1) = (fnd zs id i || (zs.getD i 0 == id)) := by
  unfold fnd
  rw [List.take_add_one, List.any_append]
  simp [List.getD, h]
theorem fnd_all {zs : List Int} {id : Int} : fnd zs id zs.length = zs.any fun x => x == id := by unfold fnd; rw [List.take_length]

set_option maxRecDepth 100000 in
set_option maxHeartbeats 8000000 in
theorem timerMoves_any (A : Option Addr) (n cap : Nat) (zs : List Int) (id to : Int) (w : World) (hz : IntsAt w A zs) (hn : zs.length = n) (hm : n ≤ maxLen) :
    Calls Try.prog 7 #[.slice A n cap, .int .i64 id, .int .i64 to] w fun e w' => e = .returned (.bool true) ∧ Below w.heap.size w w' := by
  unfold maxLen at hm
  have HN := Lib.hid hn
  clear hn
  by_cases h0 : 60 < n
  · go_enter Try.func7, Try.ntmps7
    go_wp2_with fail
    refine (tlive_any _).mono ?_
    rintro x w1 ⟨rfl, hb⟩
    go_wp2_with fail
    go_ret
    exact ⟨rfl, hb⟩
  by_cases h1 : id < 0
  · go_enter Try.func7, Try.ntmps7
    go_wp2_with fail
    refine (tlive_any _).mono ?_
    rintro x w1 ⟨rfl, hb⟩
    go_wp2_with fail
    go_ret
    exact ⟨rfl, hb⟩
  by_cases h2 : (n : Int) ≤ id
  · go_enter Try.func7, Try.ntmps7
    go_wp2_with fail
    refine (tlive_any _).mono ?_
    rintro x w1 ⟨rfl, hb⟩
    go_wp2_with fail
    go_ret
    exact ⟨rfl, hb⟩
  go_enter Try.func7, Try.ntmps7
  go_wp2_with fail
  refine (Lq.new w).mono ?_
  rintro x V ⟨rfl, lq⟩
  generalize hp : w.heap.size = p at *
  replace hp := Lib.hid hp
  have st : Fs w V p A zs 0 [] := ⟨lq, fl_zero zs, lq.ints hp.out hz⟩
  replace hz := Lib.hid hz
  clear lq
  go_wp2_with fail
  go_loopw [8] (fun iv wr => ∃ (k : Nat) (S : List Dl), k ≤ n ∧ iv = .int .i64 (k : Int) ∧ Fs w wr p A zs k S) (fun iv _ => n - (intOf iv).toNat)
  case atStart => exact ⟨0, [], Nat.zero_le _, rfl, st⟩
  case round =>
    clear st
    obtain ⟨k, S, hk, rfl, st⟩ := hrel
    by_cases hlt : k < n
    · obtain ⟨ad, rfl, hbl, hc⟩ := st.ints.at_ (k := k) (by rw [HN.out]; exact hlt)
      have K := Lib.hid (st.lq.set (k : Int) (zs.getD k 0))
      cases ho : okN (zs.getD k 0)
      · have he := Lib.hid (setE_no (S := S) (id := (k : Int)) ho)
        rw [he.out] at K
        generalize zs.getD k 0 = z at *
        clear ho
        go_wp2_with fail
        refine K.out.mono ?_
        rintro x w2 ⟨rfl, lq2⟩
        go_wp2_with fail
        refine (tlive_any _).mono ?_
        rintro x w3 ⟨rfl, hb⟩
        go_wp2_with fail
        go_ret
        exact ⟨rfl, lq2.fin hp hb⟩
      · obtain ⟨he, hfl⟩ := st.fl.step (show k < 200 by omega) ho
        rw [he] at K
        replace hfl := Lib.hid hfl
        generalize setS S (k : Int) (zs.getD k 0) = S' at *
        generalize zs.getD k 0 = z at *
        clear ho he
        go_wp2_with fail
        refine K.out.mono ?_
        rintro x w2 ⟨rfl, lq2⟩
        go_wp2_with fail
        go_roundw
        case rel => exact ⟨k + 1, S', by omega, by go_num, lq2, hfl.out, lq2.ints hp.out hz.out⟩
        case measure => simp [intOf]; omega
    · obtain rfl : k = n := by omega
      have K := Lib.hid (st.lq.set id to)
      cases ho : okN to
      · have he := Lib.hid (setE_no (S := S) (id := id) ho)
        rw [he.out] at K
        have hto : to < 0 ∨ 1099511627776 < to := by unfold okN at ho; simp at ho; omega
        clear ho he st
        go_wp2_with fail
        refine K.out.mono ?_
        rintro x w2 ⟨rfl, lq2⟩
        clear K
        rcases hto with hto | hto
        · go_wp2_with fail
          refine (tlive_any _).mono ?_
          rintro x w3 ⟨rfl, hb⟩
          go_wp2_with fail
          go_ret
          exact ⟨rfl, lq2.fin hp hb⟩
        · by_cases hto2 : to < 0
          · omega
          go_wp2_with fail
          refine (tlive_any _).mono ?_
          rintro x w3 ⟨rfl, hb⟩
          go_wp2_with fail
          go_ret
          exact ⟨rfl, lq2.fin hp hb⟩
      · obtain ⟨he, hlen, hmv, hat⟩ := mv_set st.fl (show 0 ≤ id by omega) (show id < (k : Int) by omega) (show k ≤ 100 by omega) ho
        rw [he] at K
        have KA := Lib.hid (fun V' (h : Lq w V' p (setS S id to)) => h.at_ id)
        unfold atV at KA
        rw [hat] at KA
        replace hmv := Lib.hid hmv
        replace hlen := Lib.hid hlen
        generalize setS S id to = S' at *
        have hto0 : 0 ≤ to := by unfold okN at ho; simp at ho; omega
        have hto1 : to ≤ 1099511627776 := by unfold okN at ho; simp at ho; omega
        clear ho he st hat
        go_wp2_with fail
        refine K.out.mono ?_
        rintro x w2 ⟨rfl, lq2⟩
        clear K
        go_wp2_with fail
        refine (KA.out _ lq2).mono ?_
        rintro x w3 ⟨rfl, lq3⟩
        clear KA lq2
        by_cases hto : 0 < to
        · have K4 := Lib.hid (lq3.due (to - 1))
          have HE := Lib.hid (mv_early hmv.out)
          have HM := Lib.hid (mv_left hmv.out)
          have HS1 := Lib.hid (due_left_len (to - 1) S')
          generalize hD1 : dueL S' (to - 1) = D1 at *
          generalize hS1 : leftL S' (to - 1) = S2 at *
          clear hD1 hS1
          obtain ⟨m, hm1⟩ : ∃ m, m = D1.length := ⟨_, rfl⟩
          rw [← hm1] at K4
          replace hm1 := Lib.hid hm1
          have hle : m ≤ 60 := by have := hm1.out; have := HS1.out; have := hlen.out; omega
          have HL2 := Lib.hid (show m + S2.length = k by have := hm1.out; have := HS1.out; have := hlen.out; omega)
          go_wp2_with fail
          refine K4.out.mono ?_
          rintro x w4 ⟨A4, ca4, rfl, hz4, -, lq4⟩
          clear K4 lq3 HS1 hlen hmv
          have HI4 := Lib.hid (lq4.ints hp.out hz.out)
          go_wp2_with fail
          go_loop [13] (fun iv => ∃ i : Nat, i ≤ m ∧ iv = .int .i64 (i : Int)) (fun iv => m - (intOf iv).toNat)
          case atStart => exact ⟨0, Nat.zero_le _, rfl⟩
          case round =>
            obtain ⟨i, hi, rfl⟩ := hrel
            by_cases hlt2 : i < m
            · obtain ⟨ad4, rfl, hb4, hc4⟩ := hz4.at_ (k := i) (by rw [List.length_map, ← hm1.out]; exact hlt2)
              obtain ⟨j, hj1, hj2, hj3, hj4⟩ := HE.out i (by rw [← hm1.out]; exact hlt2)
              rw [hj2] at hc4
              obtain ⟨ad, rfl, hbl, hc⟩ := HI4.out.at_ (k := j) (by rw [HN.out]; exact hj1)
              have hj5 : decide (to ≤ zs.getD j 0) = false := by simp only [decide_eq_false_iff_not]; omega
              generalize zs.getD j 0 = z at *
              clear hj2
              have j2 : (0 : Int) ≤ (j : Int) := by omega
              have j3 : (j : Int) < (k : Int) := by omega
              have i2 : (0 : Int) ≤ (i : Int) := by omega
              have i3 : (i : Int) < (m : Int) := by omega
              go_wp2_with fail
              go_round
              case rel => exact ⟨i + 1, by omega, by go_num⟩
              case measure => simp [intOf]; omega
            · obtain rfl : i = m := by omega
              clear HE hz4
              obtain ⟨i0, hi0⟩ : ∃ i0, i0 = i := ⟨_, rfl⟩
              rw [← hi0] at hle HL2 ⊢
              clear hi0 hlt2 hi hm1
              have K5 := Lib.hid (lq4.due to)
              have HF := Lib.hid (mv_due HM.out)
              have HS := Lib.hid (due_left_len to S2)
              generalize hD : dueL S2 to = D at *
              generalize leftL S2 to = R at *
              clear hD
              obtain ⟨m2, hm2⟩ : ∃ m2, m2 = D.length := ⟨_, rfl⟩
              rw [← hm2] at K5
              replace hm2 := Lib.hid hm2
              have hle2 : m2 ≤ 60 := by have := hm2.out; have := HS.out; have := HL2.out; omega
              go_wp2_with fail
              refine K5.out.mono ?_
              rintro x w5 ⟨A5, ca5, rfl, hz5, -, lq5⟩
              clear K5 lq4
              go_wp2_with fail
              go_loop [15, 16] (fun fv iv => ∃ i : Nat, i ≤ m2 ∧ fv = .bool (fnd (D.map (·.1)) id i) ∧ iv = .int .i64 (i : Int)) (fun _ iv => m2 - (intOf iv).toNat)
              case atStart => exact ⟨0, Nat.zero_le _, by simp [fnd], rfl⟩
              case round =>
                obtain ⟨i, hi, rfl, rfl⟩ := hrel
                by_cases hlt2 : i < m2
                · obtain ⟨ad5, rfl, hb5, hc5⟩ := hz5.at_ (k := i) (by rw [List.length_map, ← hm2.out]; exact hlt2)
                  have HP := Lib.hid (fnd_succ (zs := D.map (·.1)) (id := id) (i := i) (by rw [List.length_map, ← hm2.out]; exact hlt2))
                  generalize (D.map (·.1)).getD i 0 = z at *
                  have i2 : (0 : Int) ≤ (i : Int) := by omega
                  have i3 : (i : Int) < (m2 : Int) := by omega
                  cases hq : fnd (D.map (·.1)) id i
                  · rw [hq] at HP
                    simp only [Bool.false_or] at HP
                    cases hzi : (z == id)
                    · rw [hzi] at HP
                      go_wp2_with fail
                      go_round
                      case rel => exact ⟨i + 1, by omega, by rw [HP.out], by go_num⟩
                      case measure => simp [intOf]; omega
                    · rw [hzi] at HP
                      go_wp2_with fail
                      go_round
                      case rel => exact ⟨i + 1, by omega, by rw [HP.out], by go_num⟩
                      case measure => simp [intOf]; omega
                  · rw [hq] at HP
                    simp only [Bool.true_or] at HP
                    go_wp2_with fail
                    go_round
                    case rel => exact ⟨i + 1, by omega, by rw [HP.out], by go_num⟩
                    case measure => simp [intOf]; omega
                · obtain rfl : i = m2 := by omega
                  have HX := Lib.hid (show fnd (D.map (·.1)) id i = true from by rw [hm2.out, ← List.length_map (f := fun x : Dl => x.1), fnd_all]; exact HF.out)
                  rw [HX.out]
                  have K6 := Lib.hid lq5.len
                  have hfin : ((R.length : Int) == (k : Int) - (i0 : Int) - (i : Int)) = true := by
                    have := hm2.out; have := HS.out; have := HL2.out
                    simp
                    omega
                  generalize R.length = rl at *
                  go_wp2_with fail
                  refine K6.out.mono ?_
                  rintro x w6 ⟨rfl, rfl⟩
                  go_wp2_with fail
                  refine (tlive_any _).mono ?_
                  rintro x w7 ⟨rfl, hb⟩
                  go_wp2_with fail
                  go_ret
                  exact ⟨rfl, lq5.fin hp hb⟩
        · have K5 := Lib.hid (lq3.due to)
          have HF := Lib.hid (mv_due hmv.out.mem)
          have HS := Lib.hid (due_left_len to S')
          generalize hD : dueL S' to = D at *
          generalize leftL S' to = R at *
          clear hD
          obtain ⟨m2, hm2⟩ : ∃ m2, m2 = D.length := ⟨_, rfl⟩
          rw [← hm2] at K5
          replace hm2 := Lib.hid hm2
          have hle2 : m2 ≤ 60 := by have := hm2.out; have := HS.out; have := hlen.out; omega
          go_wp2_with fail
          refine K5.out.mono ?_
          rintro x w5 ⟨A5, ca5, rfl, hz5, -, lq5⟩
          clear K5 lq3
          go_wp2_with fail
          go_loop [15, 16] (fun fv iv => ∃ i : Nat, i ≤ m2 ∧ fv = .bool (fnd (D.map (·.1)) id i) ∧ iv = .int .i64 (i : Int)) (fun _ iv => m2 - (intOf iv).toNat)
          case atStart => exact ⟨0, Nat.zero_le _, by simp [fnd], rfl⟩
          case round =>
            obtain ⟨i, hi, rfl, rfl⟩ := hrel
            by_cases hlt2 : i < m2
            · obtain ⟨ad5, rfl, hb5, hc5⟩ := hz5.at_ (k := i) (by rw [List.length_map, ← hm2.out]; exact hlt2)
              have HP := Lib.hid (fnd_succ (zs := D.map (·.1)) (id := id) (i := i) (by rw [List.length_map, ← hm2.out]; exact hlt2))
              generalize (D.map (·.1)).getD i 0 = z at *
              have i2 : (0 : Int) ≤ (i : Int) := by omega
              have i3 : (i : Int) < (m2 : Int) := by omega
              cases hq : fnd (D.map (·.1)) id i
              · rw [hq] at HP
                simp only [Bool.false_or] at HP
                cases hzi : (z == id)
                · rw [hzi] at HP
                  go_wp2_with fail
                  go_round
                  case rel => exact ⟨i + 1, by omega, by rw [HP.out], by go_num⟩
                  case measure => simp [intOf]; omega
                · rw [hzi] at HP
                  go_wp2_with fail
                  go_round
                  case rel => exact ⟨i + 1, by omega, by rw [HP.out], by go_num⟩
                  case measure => simp [intOf]; omega
              · rw [hq] at HP
                simp only [Bool.true_or] at HP
                go_wp2_with fail
                go_round
                case rel => exact ⟨i + 1, by omega, by rw [HP.out], by go_num⟩
                case measure => simp [intOf]; omega
            · obtain rfl : i = m2 := by omega
              have HX := Lib.hid (show fnd (D.map (·.1)) id i = true from by rw [hm2.out, ← List.length_map (f := fun x : Dl => x.1), fnd_all]; exact HF.out)
              rw [HX.out]
              have K6 := Lib.hid lq5.len
              have hfin : ((R.length : Int) == (k : Int) - (i : Int)) = true := by
                have := hm2.out; have := HS.out; have := hlen.out
                simp
                omega
              generalize R.length = rl at *
              go_wp2_with fail
              refine K6.out.mono ?_
              rintro x w6 ⟨rfl, rfl⟩
              go_wp2_with fail
              refine (tlive_any _).mono ?_
              rintro x w7 ⟨rfl, hb⟩
              go_wp2_with fail
              go_ret
              exact ⟨rfl, lq5.fin hp hb⟩
end Go.Proofs.Ytinbaepligploaa
