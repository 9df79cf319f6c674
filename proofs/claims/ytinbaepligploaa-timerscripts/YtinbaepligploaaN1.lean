/- Queues filled from a list; TimerNext, walked. -/
import Derived.Test.YtinbaepligploaaQ11
namespace Go.Proofs.Ytinbaepligploaa
open Go.RowKit Go.Shelf

/-- The first k deadlines, each under its place. -/
structure Fl (zs : List Int) (k : Nat) (S : List Dl) : Prop where
  ok : Ok S
  mem : ∀ d, d ∈ S ↔ ∃ i : Nat, i < k ∧ d = ((i : Int), zs.getD i 0)
  len : S.length = k
theorem fl_zero (zs : List Int) : Fl zs 0 [] := ⟨ok_nil, fun d => ⟨fun h => by simp at h, fun ⟨i, h, _⟩ => by omega⟩, rfl⟩
theorem okN_nat {k : Nat} (h : k ≤ 1000) : okN (k : Int) = true := by
  unfold okN
  simp
  omega
theorem Fl.no {zs : List Int} {k : Nat} {S : List Dl} (h : Fl zs k S) : hasI (k : Int) S = false := by
  rw [← Bool.not_eq_true, has_iff]
  rintro ⟨d, hd, e⟩
  obtain ⟨i, hi, rfl⟩ := (h.mem d).1 hd
  simp at e
  omega
theorem Fl.step {zs : List Int} {k : Nat} {S : List Dl} (h : Fl zs k S) (hk : k < 200) (ho : okN (zs.getD k 0) = true) : setE S (k : Int) (zs.getD k 0) = 0 ∧ Fl zs (k + 1) (setS S (k : Int) (zs.getD k 0)) := by
  have e := setE_new (S := S) (id := (k : Int)) (t := zs.getD k 0) (by rw [ho, okN_nat (by omega)]; rfl) h.no (by rw [h.len]; omega)
  refine ⟨e, ok_set h.ok _ _, fun d => ?_, ?_⟩
  · rw [setS_ok e, ins_mem, del_none h.no, h.mem]
    constructor
    · rintro (rfl | ⟨i, hi, rfl⟩)
      · exact ⟨k, by omega, rfl⟩
      · exact ⟨i, by omega, rfl⟩
    · rintro ⟨i, hi, rfl⟩
      by_cases e2 : i = k
      · subst e2; exact .inl rfl
      · exact .inr ⟨i, by omega, rfl⟩
  · rw [setS_ok e, ins_len, del_none h.no, h.len]
theorem setE_no {S : List Dl} {id t : Int} (ho : okN t = false) : setE S id t = 1 := setE_bad (by rw [ho]; simp)
theorem Fl.has {zs : List Int} {k : Nat} {S : List Dl} (h : Fl zs k S) (g : Int) : hasI g S = (decide (0 ≤ g) && decide (g < (k : Int))) := by
  rw [Bool.eq_iff_iff, has_iff]
  simp only [Bool.and_eq_true, decide_eq_true_eq]
  constructor
  · rintro ⟨d, hd, rfl⟩
    obtain ⟨i, hi, rfl⟩ := (h.mem d).1 hd
    simp
    omega
  · rintro ⟨h1, h2⟩
    exact ⟨((g.toNat : Int), zs.getD g.toNat 0), (h.mem _).2 ⟨g.toNat, by omega, rfl⟩, by simp; omega⟩
/-- A queue filled so far, beside the list. -/
structure Fs (w V : World) (p : Nat) (A : Option Addr) (zs : List Int) (k : Nat) (S : List Dl) : Prop where
  lq : Lq w V p S
  fl : Fl zs k S
  ints : IntsAt V A zs
theorem Lq.ints {w V : World} {p : Nat} {S : List Dl} {A : Option Addr} {zs : List Int} (h : Lq w V p S) (hp : w.heap.size = p) (hz : IntsAt w A zs) : IntsAt V A zs := hz.next (by rw [hp]; exact h.low)
theorem Lq.fin {w V V' : World} {p : Nat} {S : List Dl} (h : Lq w V p S) (hp : Hid (w.heap.size = p)) (hb : Below V.heap.size V V') : Below w.heap.size w V' := by rw [hp.out]; exact (h.next hb).low
theorem due_nth {zs : List Int} {n : Nat} {S T : List Dl} {d : Dl} {g : Int} (h : Fl zs n S) (e : del g S = d :: T) (i : Nat) (hi : i < (dueL (d :: T) d.2).length) :
    ∃ j : Nat, j < n ∧ ((dueL (d :: T) d.2).map (·.1)).getD i 0 = (j : Int) ∧ zs.getD j 0 = d.2 ∧ ((j : Int) == g) = false := by
  have hm := nt_mem hi
  have e1 : ((dueL (d :: T) d.2).map (·.1)).getD i 0 = (nt (dueL (d :: T) d.2) i).1 := by
    rw [nt_eq hi]
    simp [List.getD, hi]
  rw [e1]
  generalize nt (dueL (d :: T) d.2) i = x at *
  unfold dueL at hm
  rw [List.mem_filter] at hm
  obtain ⟨h1, h2⟩ := hm
  have hs : Srt (d :: T) := by rw [← e]; exact (ok_del h.ok g).srt
  have h3 : d.2 ≤ x.2 := by
    rcases List.mem_cons.1 h1 with rfl | h1
    · omega
    · exact srt_times hs x h1
  rw [← e] at h1
  obtain ⟨h4, h5⟩ := del_mem.1 h1
  obtain ⟨j, hj, rfl⟩ := (h.mem x).1 h4
  simp at h2 h3 h5
  refine ⟨j, hj, rfl, ?_, by simpa using h5⟩
  simp [List.getD]
  omega
theorem due_first {T : List Dl} {d : Dl} : (dueL (d :: T) d.2).length = (dueL T d.2).length + 1 ∧ ((dueL (d :: T) d.2).map (·.1)).getD 0 0 = d.1 := by
  rw [due_head (by omega)]
  exact ⟨rfl, rfl⟩
theorem due_le (S : List Dl) (now : Int) : (dueL S now).length ≤ S.length := List.length_filter_le _ _
theorem Fl.le {zs : List Int} {k : Nat} {S : List Dl} (h : Fl zs k S) (g now : Int) : (dueL (del g S) now).length ≤ k := Nat.le_trans (due_le _ _) (by rw [← h.len]; exact List.length_filter_le _ _)

set_option maxRecDepth 100000 in
set_option maxHeartbeats 8000000 in
theorem timerNext_any (A : Option Addr) (n cap : Nat) (zs : List Int) (gone : Int) (w : World) (hz : IntsAt w A zs) (hn : zs.length = n) (hm : n ≤ maxLen) :
    Calls Try.prog 5 #[.slice A n cap, .int .i64 gone] w fun e w' => e = .returned (.bool true) ∧ Below w.heap.size w w' := by
  unfold maxLen at hm
  have HN := Lib.hid hn
  clear hn
  by_cases h100 : 100 < n
  · go_enter Try.func5, Try.ntmps5
    go_wp2_with fail
    refine (tlive_any _).mono ?_
    rintro x w1 ⟨rfl, hb⟩
    go_wp2_with fail
    go_ret
    exact ⟨rfl, hb⟩
  go_enter Try.func5, Try.ntmps5
  go_wp2_with fail
  refine (Lq.new w).mono ?_
  rintro x V ⟨rfl, lq⟩
  generalize hp : w.heap.size = p at *
  replace hp := Lib.hid hp
  have st : Fs w V p A zs 0 [] := ⟨lq, fl_zero zs, lq.ints hp.out hz⟩
  replace hz := Lib.hid hz
  clear lq
  go_wp2_with fail
  go_loopw [6] (fun iv wr => ∃ (k : Nat) (S : List Dl), k ≤ n ∧ iv = .int .i64 (k : Int) ∧ Fs w wr p A zs k S) (fun iv _ => n - (intOf iv).toNat)
  case atStart => exact ⟨0, [], Nat.zero_le _, rfl, st⟩
  case round =>
    clear st
    obtain ⟨k, S, hk, rfl, st⟩ := hrel
    by_cases hlt : k < n
    · obtain ⟨ad, rfl, hbl, hc⟩ := st.ints.at_ (k := k) (by rw [HN.out]; exact hlt)
      have K := Lib.hid (st.lq.set (k : Int) (zs.getD k 0))
      cases ho : okN (zs.getD k 0)
      · have he := Lib.hid (setE_no (S := S) (id := (k : Int)) ho)
        rw [he.out] at K
        generalize zs.getD k 0 = z at *
        clear ho
        go_wp2_with fail
        refine K.out.mono ?_
        rintro x w2 ⟨rfl, lq2⟩
        go_wp2_with fail
        refine (tlive_any _).mono ?_
        rintro x w3 ⟨rfl, hb⟩
        go_wp2_with fail
        go_ret
        exact ⟨rfl, lq2.fin hp hb⟩
      · obtain ⟨he, hfl⟩ := st.fl.step (show k < 200 by omega) ho
        rw [he] at K
        replace hfl := Lib.hid hfl
        generalize setS S (k : Int) (zs.getD k 0) = S' at *
        generalize zs.getD k 0 = z at *
        clear ho he
        go_wp2_with fail
        refine K.out.mono ?_
        rintro x w2 ⟨rfl, lq2⟩
        go_wp2_with fail
        go_roundw
        case rel => exact ⟨k + 1, S', by omega, by go_num, lq2, hfl.out, lq2.ints hp.out hz.out⟩
        case measure => simp [intOf]; omega
    · obtain rfl : k = n := by omega
      have hF := Lib.hid st.fl
      have HLE := Lib.hid (fun now => hF.out.le gone now)
      have HN2 := Lib.hid (fun (d : Dl) (T : List Dl) (e : del gone S = d :: T) => due_nth hF.out e)
      have K := Lib.hid (st.lq.cancel gone)
      rw [hF.out.has gone] at K
      clear st hF
      generalize del gone S = T at K HLE HN2
      by_cases g0 : gone < 0
      · rw [show (decide (0 ≤ gone) && decide (gone < (k : Int))) = false by simp; omega] at K
        go_wp2_with fail
        refine K.out.mono ?_
        rintro x w2 ⟨rfl, lq2⟩
        clear K
        have HI := Lib.hid (lq2.ints hp.out hz.out)
        cases T with
        | nil =>
          have K2 := Lib.hid (show Calls Try.prog 18 #[.pointer (some ⟨p, 0, none⟩)] w2 fun x V' => x = .returned (.tuple #[.int .i64 0, .int .i64 0, .bool false]) ∧ Lq w V' p [] from lq2.nxt)
          go_wp2_with fail
          refine K2.out.mono ?_
          rintro x w3 ⟨rfl, lq3⟩
          have K3 := Lib.hid (show Calls Try.prog 20 #[.pointer (some ⟨p, 0, none⟩)] w3 fun x V' => x = .returned (.int .i64 0) ∧ w3 = V' from lq3.len)
          have K4 := Lib.hid (show Calls Try.prog 22 #[.pointer (some ⟨p, 0, none⟩), .int .i64 1099511627776] w3 fun x V' => ∃ A ca, x = .returned (.slice A 0 ca) ∧ IntsAt V' A [] ∧ Tr p w3 V' ∧ Lq w V' p [] from lq3.due 1099511627776)
          clear K2 lq2
          go_wp2_with fail
          refine K3.out.mono ?_
          rintro x w4 ⟨rfl, rfl⟩
          go_wp2_with fail
          refine K4.out.mono ?_
          rintro x w4 ⟨A4, ca4, rfl, -, -, lq4⟩
          go_wp2_with fail
          refine (tlive_any _).mono ?_
          rintro x w5 ⟨rfl, hb⟩
          go_wp2_with fail
          go_ret
          exact ⟨rfl, lq4.fin hp hb⟩
        | cons d T =>
          have K2 := Lib.hid (show Calls Try.prog 18 #[.pointer (some ⟨p, 0, none⟩)] w2 fun x V' => x = .returned (.tuple #[.int .i64 d.1, .int .i64 d.2, .bool true]) ∧ Lq w V' p (d :: T) from lq2.nxt)
          go_wp2_with fail
          refine K2.out.mono ?_
          rintro x w3 ⟨rfl, lq3⟩
          have K3 := Lib.hid (show Calls Try.prog 20 #[.pointer (some ⟨p, 0, none⟩)] w3 fun x V' => x = .returned (.int .i64 ((T.length + 1 : Nat) : Int)) ∧ w3 = V' from lq3.len)
          have K4 := Lib.hid (lq3.due d.2)
          obtain ⟨hd1, hd2⟩ := due_first (T := T) (d := d)
          have HD2 := Lib.hid hd2
          have HN3 := Lib.hid (HN2.out d T rfl)
          have hle := HLE.out d.2
          obtain ⟨m, hm1⟩ : ∃ m, m = (dueL (d :: T) d.2).length := ⟨_, rfl⟩
          rw [← hm1] at K4 hd1 hle
          have hm0 : 0 < m := by omega
          replace hm1 := Lib.hid hm1
          have ht : decide ((0 : Int) < ((T.length + 1 : Nat) : Int)) = true := by simp
          clear K2 lq2 hd1 hd2 HLE HN2
          go_wp2_with fail
          refine K3.out.mono ?_
          rintro x w4 ⟨rfl, rfl⟩
          clear K3
          go_wp2_with fail
          refine K4.out.mono ?_
          rintro x w4 ⟨A4, ca4, rfl, hz4, -, lq4⟩
          clear K4 lq3 ht
          have HI4 := Lib.hid (lq4.ints hp.out hz.out)
          clear HI
          go_wp2_with fail
          go_loop [12] (fun iv => ∃ i : Nat, i ≤ m ∧ iv = .int .i64 (i : Int)) (fun iv => m - (intOf iv).toNat)
          case atStart => exact ⟨0, Nat.zero_le _, rfl⟩
          case round =>
            obtain ⟨i, hi, rfl⟩ := hrel
            by_cases hlt2 : i < m
            · obtain ⟨ad4, rfl, hb4, hc4⟩ := hz4.at_ (k := i) (by rw [List.length_map, ← hm1.out]; exact hlt2)
              obtain ⟨j, hj1, hj2, hj3, hj4⟩ := HN3.out i (by rw [← hm1.out]; exact hlt2)
              rw [hj2] at hc4
              obtain ⟨ad, rfl, hbl, hc⟩ := HI4.out.at_ (k := j) (by rw [HN.out]; exact hj1)
              rw [hj3] at hc
              clear hj2 hj3
              have j2 : (0 : Int) ≤ (j : Int) := by omega
              have j3 : (j : Int) < (k : Int) := by omega
              have i2 : (0 : Int) ≤ (i : Int) := by omega
              have i3 : (i : Int) < (m : Int) := by omega
              go_wp2_with fail
              go_round
              case rel => exact ⟨i + 1, by omega, by go_num⟩
              case measure => simp [intOf]; omega
            · obtain rfl : i = m := by omega
              obtain ⟨ad4, rfl, hb4, hc4⟩ := hz4.at_ (k := 0) (by rw [List.length_map, ← hm1.out]; exact hm0)
              rw [HD2.out] at hc4
              rw [show ad4.add 0 = ad4 from by unfold Addr.add; simp] at hc4
              go_wp2_with fail
              refine (tlive_any _).mono ?_
              rintro x w5 ⟨rfl, hb⟩
              go_wp2_with fail
              go_ret
              exact ⟨rfl, lq4.fin hp hb⟩
      · by_cases g1 : gone < (k : Int)
        · rw [show (decide (0 ≤ gone) && decide (gone < (k : Int))) = true by simp; omega] at K
          go_wp2_with fail
          refine K.out.mono ?_
          rintro x w2 ⟨rfl, lq2⟩
          clear K
          have HI := Lib.hid (lq2.ints hp.out hz.out)
          cases T with
          | nil =>
            have K2 := Lib.hid (show Calls Try.prog 18 #[.pointer (some ⟨p, 0, none⟩)] w2 fun x V' => x = .returned (.tuple #[.int .i64 0, .int .i64 0, .bool false]) ∧ Lq w V' p [] from lq2.nxt)
            go_wp2_with fail
            refine K2.out.mono ?_
            rintro x w3 ⟨rfl, lq3⟩
            have K3 := Lib.hid (show Calls Try.prog 20 #[.pointer (some ⟨p, 0, none⟩)] w3 fun x V' => x = .returned (.int .i64 0) ∧ w3 = V' from lq3.len)
            have K4 := Lib.hid (show Calls Try.prog 22 #[.pointer (some ⟨p, 0, none⟩), .int .i64 1099511627776] w3 fun x V' => ∃ A ca, x = .returned (.slice A 0 ca) ∧ IntsAt V' A [] ∧ Tr p w3 V' ∧ Lq w V' p [] from lq3.due 1099511627776)
            clear K2 lq2
            go_wp2_with fail
            refine K3.out.mono ?_
            rintro x w4 ⟨rfl, rfl⟩
            go_wp2_with fail
            refine K4.out.mono ?_
            rintro x w4 ⟨A4, ca4, rfl, -, -, lq4⟩
            go_wp2_with fail
            refine (tlive_any _).mono ?_
            rintro x w5 ⟨rfl, hb⟩
            go_wp2_with fail
            go_ret
            exact ⟨rfl, lq4.fin hp hb⟩
          | cons d T =>
            have K2 := Lib.hid (show Calls Try.prog 18 #[.pointer (some ⟨p, 0, none⟩)] w2 fun x V' => x = .returned (.tuple #[.int .i64 d.1, .int .i64 d.2, .bool true]) ∧ Lq w V' p (d :: T) from lq2.nxt)
            go_wp2_with fail
            refine K2.out.mono ?_
            rintro x w3 ⟨rfl, lq3⟩
            have K3 := Lib.hid (show Calls Try.prog 20 #[.pointer (some ⟨p, 0, none⟩)] w3 fun x V' => x = .returned (.int .i64 ((T.length + 1 : Nat) : Int)) ∧ w3 = V' from lq3.len)
            have K4 := Lib.hid (lq3.due d.2)
            obtain ⟨hd1, hd2⟩ := due_first (T := T) (d := d)
            have HD2 := Lib.hid hd2
            have HN3 := Lib.hid (HN2.out d T rfl)
            have hle := HLE.out d.2
            obtain ⟨m, hm1⟩ : ∃ m, m = (dueL (d :: T) d.2).length := ⟨_, rfl⟩
            rw [← hm1] at K4 hd1 hle
            have hm0 : 0 < m := by omega
            replace hm1 := Lib.hid hm1
            have ht : decide ((0 : Int) < ((T.length + 1 : Nat) : Int)) = true := by simp
            clear K2 lq2 hd1 hd2 HLE HN2
            go_wp2_with fail
            refine K3.out.mono ?_
            rintro x w4 ⟨rfl, rfl⟩
            clear K3
            go_wp2_with fail
            refine K4.out.mono ?_
            rintro x w4 ⟨A4, ca4, rfl, hz4, -, lq4⟩
            clear K4 lq3 ht
            have HI4 := Lib.hid (lq4.ints hp.out hz.out)
            clear HI
            go_wp2_with fail
            go_loop [12] (fun iv => ∃ i : Nat, i ≤ m ∧ iv = .int .i64 (i : Int)) (fun iv => m - (intOf iv).toNat)
            case atStart => exact ⟨0, Nat.zero_le _, rfl⟩
            case round =>
              obtain ⟨i, hi, rfl⟩ := hrel
              by_cases hlt2 : i < m
              · obtain ⟨ad4, rfl, hb4, hc4⟩ := hz4.at_ (k := i) (by rw [List.length_map, ← hm1.out]; exact hlt2)
                obtain ⟨j, hj1, hj2, hj3, hj4⟩ := HN3.out i (by rw [← hm1.out]; exact hlt2)
                rw [hj2] at hc4
                obtain ⟨ad, rfl, hbl, hc⟩ := HI4.out.at_ (k := j) (by rw [HN.out]; exact hj1)
                rw [hj3] at hc
                clear hj2 hj3
                have j2 : (0 : Int) ≤ (j : Int) := by omega
                have j3 : (j : Int) < (k : Int) := by omega
                have i2 : (0 : Int) ≤ (i : Int) := by omega
                have i3 : (i : Int) < (m : Int) := by omega
                go_wp2_with fail
                go_round
                case rel => exact ⟨i + 1, by omega, by go_num⟩
                case measure => simp [intOf]; omega
              · obtain rfl : i = m := by omega
                obtain ⟨ad4, rfl, hb4, hc4⟩ := hz4.at_ (k := 0) (by rw [List.length_map, ← hm1.out]; exact hm0)
                rw [HD2.out] at hc4
                rw [show ad4.add 0 = ad4 from by unfold Addr.add; simp] at hc4
                go_wp2_with fail
                refine (tlive_any _).mono ?_
                rintro x w5 ⟨rfl, hb⟩
                go_wp2_with fail
                go_ret
                exact ⟨rfl, lq4.fin hp hb⟩
        · rw [show (decide (0 ≤ gone) && decide (gone < (k : Int))) = false by simp; omega] at K
          go_wp2_with fail
          refine K.out.mono ?_
          rintro x w2 ⟨rfl, lq2⟩
          clear K
          have HI := Lib.hid (lq2.ints hp.out hz.out)
          cases T with
          | nil =>
            have K2 := Lib.hid (show Calls Try.prog 18 #[.pointer (some ⟨p, 0, none⟩)] w2 fun x V' => x = .returned (.tuple #[.int .i64 0, .int .i64 0, .bool false]) ∧ Lq w V' p [] from lq2.nxt)
            go_wp2_with fail
            refine K2.out.mono ?_
            rintro x w3 ⟨rfl, lq3⟩
            have K3 := Lib.hid (show Calls Try.prog 20 #[.pointer (some ⟨p, 0, none⟩)] w3 fun x V' => x = .returned (.int .i64 0) ∧ w3 = V' from lq3.len)
            have K4 := Lib.hid (show Calls Try.prog 22 #[.pointer (some ⟨p, 0, none⟩), .int .i64 1099511627776] w3 fun x V' => ∃ A ca, x = .returned (.slice A 0 ca) ∧ IntsAt V' A [] ∧ Tr p w3 V' ∧ Lq w V' p [] from lq3.due 1099511627776)
            clear K2 lq2
            go_wp2_with fail
            refine K3.out.mono ?_
            rintro x w4 ⟨rfl, rfl⟩
            go_wp2_with fail
            refine K4.out.mono ?_
            rintro x w4 ⟨A4, ca4, rfl, -, -, lq4⟩
            go_wp2_with fail
            refine (tlive_any _).mono ?_
            rintro x w5 ⟨rfl, hb⟩
            go_wp2_with fail
            go_ret
            exact ⟨rfl, lq4.fin hp hb⟩
          | cons d T =>
            have K2 := Lib.hid (show Calls Try.prog 18 #[.pointer (some ⟨p, 0, none⟩)] w2 fun x V' => x = .returned (.tuple #[.int .i64 d.1, .int .i64 d.2, .bool true]) ∧ Lq w V' p (d :: T) from lq2.nxt)
            go_wp2_with fail
            refine K2.out.mono ?_
            rintro x w3 ⟨rfl, lq3⟩
            have K3 := Lib.hid (show Calls Try.prog 20 #[.pointer (some ⟨p, 0, none⟩)] w3 fun x V' => x = .returned (.int .i64 ((T.length + 1 : Nat) : Int)) ∧ w3 = V' from lq3.len)
            have K4 := Lib.hid (lq3.due d.2)
            obtain ⟨hd1, hd2⟩ := due_first (T := T) (d := d)
            have HD2 := Lib.hid hd2
            have HN3 := Lib.hid (HN2.out d T rfl)
            have hle := HLE.out d.2
            obtain ⟨m, hm1⟩ : ∃ m, m = (dueL (d :: T) d.2).length := ⟨_, rfl⟩
            rw [← hm1] at K4 hd1 hle
            have hm0 : 0 < m := by omega
            replace hm1 := Lib.hid hm1
            have ht : decide ((0 : Int) < ((T.length + 1 : Nat) : Int)) = true := by simp
            clear K2 lq2 hd1 hd2 HLE HN2
            go_wp2_with fail
            refine K3.out.mono ?_
            rintro x w4 ⟨rfl, rfl⟩
            clear K3
            go_wp2_with fail
            refine K4.out.mono ?_
            rintro x w4 ⟨A4, ca4, rfl, hz4, -, lq4⟩
            clear K4 lq3 ht
            have HI4 := Lib.hid (lq4.ints hp.out hz.out)
            clear HI
            go_wp2_with fail
            go_loop [12] (fun iv => ∃ i : Nat, i ≤ m ∧ iv = .int .i64 (i : Int)) (fun iv => m - (intOf iv).toNat)
            case atStart => exact ⟨0, Nat.zero_le _, rfl⟩
            case round =>
              obtain ⟨i, hi, rfl⟩ := hrel
              by_cases hlt2 : i < m
              · obtain ⟨ad4, rfl, hb4, hc4⟩ := hz4.at_ (k := i) (by rw [List.length_map, ← hm1.out]; exact hlt2)
                obtain ⟨j, hj1, hj2, hj3, hj4⟩ := HN3.out i (by rw [← hm1.out]; exact hlt2)
                rw [hj2] at hc4
                obtain ⟨ad, rfl, hbl, hc⟩ := HI4.out.at_ (k := j) (by rw [HN.out]; exact hj1)
                rw [hj3] at hc
                clear hj2 hj3
                have j2 : (0 : Int) ≤ (j : Int) := by omega
                have j3 : (j : Int) < (k : Int) := by omega
                have i2 : (0 : Int) ≤ (i : Int) := by omega
                have i3 : (i : Int) < (m : Int) := by omega
                go_wp2_with fail
                go_round
                case rel => exact ⟨i + 1, by omega, by go_num⟩
                case measure => simp [intOf]; omega
              · obtain rfl : i = m := by omega
                obtain ⟨ad4, rfl, hb4, hc4⟩ := hz4.at_ (k := 0) (by rw [List.length_map, ← hm1.out]; exact hm0)
                rw [HD2.out] at hc4
                rw [show ad4.add 0 = ad4 from by unfold Addr.add; simp] at hc4
                go_wp2_with fail
                refine (tlive_any _).mono ?_
                rintro x w5 ⟨rfl, hb⟩
                go_wp2_with fail
                go_ret
                exact ⟨rfl, lq4.fin hp hb⟩
end Go.Proofs.Ytinbaepligploaa
