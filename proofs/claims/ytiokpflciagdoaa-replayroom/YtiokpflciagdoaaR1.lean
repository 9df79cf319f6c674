/- The law ReplayRoom, walked. -/
import Derived.Test.YtiokpflciagdoaaR0
namespace Go.Proofs.Ytiokpflciagdoaa
open Go.RowKit Go.Maps

theorem bool_not_eq {b : Bool} (h : b = true) : (!b) = false := by rw [h]; rfl
set_option maxRecDepth 100000 in
set_option maxHeartbeats 4000000 in
theorem room_big (most : Int) (A : Option Addr) (n cap : Nat) (os : List OpR) (x : Cr) (w : World) (hs : ScriptAt w A os) (hn : os.length = n) (hm : n ≤ maxLen) (_hx : CrAt w x) (hsm : smallB os 60 = false) : Calls Try.prog 7 #[.int .i64 most, .slice A n cap, .agg #[.int .i64 x.j, .int .i64 x.e, .int .i64 x.s, .int .i64 x.f, .int .i64 x.u, .slice x.A x.n x.cap, .int .i64 x.c]] w fun e w' => e = .returned (.bool true) ∧ Below w.heap.size w w' := by
  have hb0 := below_alloc w (.cells #[.int .i64 x.j, .int .i64 x.e, .int .i64 x.s, .int .i64 x.f, .int .i64 x.u, .slice x.A x.n x.cap, .int .i64 x.c] 31)
  have k0 := Bk.new w 31 #[.int .i64 x.j, .int .i64 x.e, .int .i64 x.s, .int .i64 x.f, .int .i64 x.u, .slice x.A x.n x.cap, .int .i64 x.c]
  have KS := Lib.hid (small_any A n cap os 60 (w.alloc (.cells #[.int .i64 x.j, .int .i64 x.e, .int .i64 x.s, .int .i64 x.f, .int .i64 x.u, .slice x.A x.n x.cap, .int .i64 x.c] 31)) (hs.below hb0) hn hm)
  rw [hsm] at KS
  clear hn hsm
  go_enter Try.func7, Try.ntmps7
  go_wp2_with fail
  refine KS.out.mono ?_
  rintro e w1 ⟨rfl, rfl⟩
  go_wp2_with fail
  refine (live_any _).mono ?_
  rintro e w2 ⟨rfl, hb⟩
  go_wp2_with fail
  go_ret
  exact ⟨rfl, bmore hb0 hb⟩
set_option maxRecDepth 100000 in
set_option maxHeartbeats 4000000 in
theorem room_long (most : Int) (A : Option Addr) (n cap : Nat) (os : List OpR) (x : Cr) (w : World) (hs : ScriptAt w A os) (hn : os.length = n) (hm : n ≤ maxLen) (_hx : CrAt w x) (hsm : smallB os 60 = true) (h20 : 20 < x.n) : Calls Try.prog 7 #[.int .i64 most, .slice A n cap, .agg #[.int .i64 x.j, .int .i64 x.e, .int .i64 x.s, .int .i64 x.f, .int .i64 x.u, .slice x.A x.n x.cap, .int .i64 x.c]] w fun e w' => e = .returned (.bool true) ∧ Below w.heap.size w w' := by
  have hb0 := below_alloc w (.cells #[.int .i64 x.j, .int .i64 x.e, .int .i64 x.s, .int .i64 x.f, .int .i64 x.u, .slice x.A x.n x.cap, .int .i64 x.c] 31)
  have k0 := Bk.new w 31 #[.int .i64 x.j, .int .i64 x.e, .int .i64 x.s, .int .i64 x.f, .int .i64 x.u, .slice x.A x.n x.cap, .int .i64 x.c]
  have KS := Lib.hid (small_any A n cap os 60 (w.alloc (.cells #[.int .i64 x.j, .int .i64 x.e, .int .i64 x.s, .int .i64 x.f, .int .i64 x.u, .slice x.A x.n x.cap, .int .i64 x.c] 31)) (hs.below hb0) hn hm)
  rw [hsm] at KS
  clear hn hsm
  have t0 : decide ((20 : Int) < (x.n : Int)) = true := by simp; omega
  have q5 := k0.cell 5 _ rfl
  go_enter Try.func7, Try.ntmps7
  go_wp2_with fail
  refine KS.out.mono ?_
  rintro e w1 ⟨rfl, rfl⟩
  go_wp2_with fail
  refine (live_any _).mono ?_
  rintro e w2 ⟨rfl, hb⟩
  go_wp2_with fail
  go_ret
  exact ⟨rfl, bmore hb0 hb⟩
set_option maxRecDepth 100000 in
set_option maxHeartbeats 4000000 in
theorem room_none (most : Int) (A : Option Addr) (n cap : Nat) (os : List OpR) (x : Cr) (w : World) (hs : ScriptAt w A os) (hn : os.length = n) (hm : n ≤ maxLen) (_hx : CrAt w x) (hsm : smallB os 60 = true) (h20 : x.n ≤ 20) (hmo : most < 1 ∨ 64 < most) : Calls Try.prog 7 #[.int .i64 most, .slice A n cap, .agg #[.int .i64 x.j, .int .i64 x.e, .int .i64 x.s, .int .i64 x.f, .int .i64 x.u, .slice x.A x.n x.cap, .int .i64 x.c]] w fun e w' => e = .returned (.bool true) ∧ Below w.heap.size w w' := by
  have hb0 := below_alloc w (.cells #[.int .i64 x.j, .int .i64 x.e, .int .i64 x.s, .int .i64 x.f, .int .i64 x.u, .slice x.A x.n x.cap, .int .i64 x.c] 31)
  have k0 := Bk.new w 31 #[.int .i64 x.j, .int .i64 x.e, .int .i64 x.s, .int .i64 x.f, .int .i64 x.u, .slice x.A x.n x.cap, .int .i64 x.c]
  have KS := Lib.hid (small_any A n cap os 60 (w.alloc (.cells #[.int .i64 x.j, .int .i64 x.e, .int .i64 x.s, .int .i64 x.f, .int .i64 x.u, .slice x.A x.n x.cap, .int .i64 x.c] 31)) (hs.below hb0) hn hm)
  rw [hsm] at KS
  clear hn hsm
  have t0 : decide ((20 : Int) < (x.n : Int)) = false := by simp; omega
  have q5 := k0.cell 5 _ rfl
  go_enter Try.func7, Try.ntmps7
  go_wp2_with fail
  refine KS.out.mono ?_
  rintro e w1 ⟨rfl, rfl⟩
  go_wp2_with fail
  refine (rnew_bad most _ hmo).mono ?_
  rintro e w1' ⟨rfl, rfl⟩
  go_wp2_with fail
  refine (live_any _).mono ?_
  rintro e w2 ⟨rfl, hb⟩
  go_wp2_with fail
  go_ret
  exact ⟨rfl, bmore hb0 hb⟩
set_option maxRecDepth 100000 in
set_option maxHeartbeats 4000000 in
theorem room_go (most : Int) (A : Option Addr) (n cap : Nat) (os : List OpR) (x : Cr) (w : World) (hs : ScriptAt w A os) (hn : os.length = n) (hm : n ≤ maxLen) (hx : CrAt w x) (hsm : smallB os 60 = true) (h20 : x.n ≤ 20) (m1 : 1 ≤ most) (m2 : most ≤ 64)
    (KQ : ∀ V, Below w.heap.size w V → Calls Try.prog 20 #[.agg #[.int .i64 x.j, .int .i64 x.e, .int .i64 x.s, .int .i64 x.f, .int .i64 x.u, .slice x.A x.n x.cap, .int .i64 x.c]] V fun e w' => e = .returned (.int .i64 (oneIf (!chkC x))) ∧ Below V.heap.size V w') : Calls Try.prog 7 #[.int .i64 most, .slice A n cap, .agg #[.int .i64 x.j, .int .i64 x.e, .int .i64 x.s, .int .i64 x.f, .int .i64 x.u, .slice x.A x.n x.cap, .int .i64 x.c]] w fun e w' => e = .returned (.bool true) ∧ Below w.heap.size w w' := by
  have hb0 := below_alloc w (.cells #[.int .i64 x.j, .int .i64 x.e, .int .i64 x.s, .int .i64 x.f, .int .i64 x.u, .slice x.A x.n x.cap, .int .i64 x.c] 31)
  have k0 := Bk.new w 31 #[.int .i64 x.j, .int .i64 x.e, .int .i64 x.s, .int .i64 x.f, .int .i64 x.u, .slice x.A x.n x.cap, .int .i64 x.c]
  have KS := Lib.hid (small_any A n cap os 60 (w.alloc (.cells #[.int .i64 x.j, .int .i64 x.e, .int .i64 x.s, .int .i64 x.f, .int .i64 x.u, .slice x.A x.n x.cap, .int .i64 x.c] 31)) (hs.below hb0) hn hm)
  have hn60 : n ≤ 60 := by
    unfold smallB at hsm
    rw [Bool.and_eq_true, hn] at hsm
    have := hsm.2
    simp only [decide_eq_true_eq] at this
    omega
  rw [hsm] at KS
  have HN := Lib.hid hn
  clear hn hsm
  replace KQ := Lib.hid KQ
  have t0 : decide ((20 : Int) < (x.n : Int)) = false := by simp; omega
  have q5 := k0.cell 5 _ rfl
  go_enter Try.func7, Try.ntmps7
  go_wp2_with fail
  refine KS.out.mono ?_
  rintro e w1 ⟨rfl, rfl⟩
  go_wp2_with fail
  refine (rnew_ok most _ m1 m2).mono ?_
  rintro e w1 ⟨rfl, _, hb⟩
  replace hb0 := bmore hb0 hb; replace k0 := k0.next hb; clear hb q5 KS
  go_wp2_with fail
  refine (new_ok most _ m1 m2).mono ?_
  rintro e w2 ⟨p, bk, bt, rfl, hp, hk, ht, hC, hb⟩
  have hlt0 := k0.lt
  have hs0 := hb0.size
  have st : Rm w w2 w.heap.size p bk bt #[.int .i64 x.j, .int .i64 x.e, .int .i64 x.s, .int .i64 x.f, .int .i64 x.u, .slice x.A x.n x.cap, .int .i64 x.c] most [] [] := ⟨k0.next hb, hC, bmore hb0 hb, ⟨by omega, by omega⟩, ⟨by omega, by omega⟩⟩
  clear hC hb hb0 k0 hp hk ht hlt0 hs0
  go_wp2_with fail
  go_loopw [8, 9] (fun t i wr => ∃ (k : Nat) (last : Int) (L : List (Pl × Int)), k ≤ n ∧ i = .int .i64 k ∧ t = .int .i64 last ∧ Hid (∀ y ∈ L, y.2 ≤ last) ∧ (L.length : Int) ≤ most ∧ Rm w wr w.heap.size p bk bt #[.int .i64 x.j, .int .i64 x.e, .int .i64 x.s, .int .i64 x.f, .int .i64 x.u, .slice x.A x.n x.cap, .int .i64 x.c] most L [])
    (fun _ i _ => n - (intOf i).toNat)
  case atStart => exact ⟨0, 0, [], Nat.zero_le _, rfl, rfl, Lib.hid (by simp), by simp; omega, st⟩
  case round =>
    clear st
    obtain ⟨k, last, L, hk, rfl, rfl, HU, hLm, st⟩ := hrel
    by_cases hlt : k < n
    · obtain ⟨ad, o, rfl, hbl, hok, hoat, hc⟩ := (hs.below st.low).at_ (k := k) (by rw [HN.out]; exact hlt)
      have HO := Lib.hid hok
      clear hok hbl
      have hcr : CrAt w o.c := (hs.1 o (List.mem_of_getElem? HO.out)).cr
      have c0 := hc.e0
      by_cases hd : o.d = 0
      · have td : (o.d == 0) = true := by simpa using hd
        go_wp2_with fail
        refine region_tail 11 (by kernel_rfl) (by kernel_rfl) (fun w3 hw => ?_)
        replace st := st.hid hw
        replace hc : OpCells w3 (ad.add (k * 11)) o := by rw [hw.out]; exact ⟨hc.e0, hc.e1, hc.e2, hc.e3, hc.e4, hc.e5, hc.e6, hc.e7, hc.e8, hc.e9, hc.e10⟩
        clear hw c0
        obtain ⟨c0, c1, c2, c3, c4, c5, c6, c7, c8, c9, c10⟩ := hc
        simp only [List.take_succ_cons, List.take_zero, List.drop_succ_cons, List.drop_zero]
        repeat still_step
        refine wpStill_nil ?_
        clear c0 c1 c2 c3 c4 c5 c6 c7 c8 c9 c10
        have KU := Lib.hid (st.use o.c hcr o.now (by omega))
        have HL2 := Lib.hid (useOf_length hLm (chkC o.c) [] (o.c.pl hcr.pk) o.c.u o.now)
        have HU2 := Lib.hid (useOf_until (most := most) HU.out (chkC o.c) [] (o.c.pl hcr.pk) o.c.u o.now)
        generalize useOf (chkC o.c) most L [] (o.c.pl hcr.pk) o.c.u o.now = R at *
        go_wp2_with fail
        refine KU.out.mono ?_
        clear st KU
        rintro e w4 ⟨rfl, st⟩
        obtain ⟨ad', o', e1, _, hok', _, hc⟩ := (hs.below st.low).at_ (k := k) (by rw [HN.out]; exact hlt)
        cases e1
        rw [HO.out] at hok'
        cases hok'
        have c5 := hc.e5
        clear hc
        have hl2 := HL2.out
        have tl : decide (most < (R.2.length : Int)) = false := by simp; omega
        by_cases hmx : last < o.c.u
        · go_wp2_with fail
          refine st.len.mono ?_
          rintro e w5 ⟨rfl, rfl⟩
          go_wp2_with fail
          go_roundw
          case rel => exact ⟨k + 1, o.c.u, R.2, by omega, by go_num, rfl, Lib.hid (fun y hy => by have := HU2.out y hy; omega), hl2, st⟩
          case measure => simp [intOf]; omega
        · go_wp2_with fail
          refine st.len.mono ?_
          rintro e w5 ⟨rfl, rfl⟩
          go_wp2_with fail
          go_roundw
          case rel => exact ⟨k + 1, last, R.2, by omega, by go_num, rfl, Lib.hid (fun y hy => by have := HU2.out y hy; omega), hl2, st⟩
          case measure => simp [intOf]; omega
      · have td : (o.d == 0) = false := by simpa using hd
        have tl : decide (most < (L.length : Int)) = false := by simp; omega
        go_wp2_with fail
        refine st.len.mono ?_
        rintro e w5 ⟨rfl, rfl⟩
        go_wp2_with fail
        go_roundw
        case rel => exact ⟨k + 1, last, L, by omega, by go_num, rfl, HU, hLm, st⟩
        case measure => simp [intOf]; omega
    · obtain ⟨q0, q1, q2, q3, q4, q5, q6⟩ : wr.cell? ⟨w.heap.size, 0, none⟩ = some (.int .i64 x.j) ∧ wr.cell? ⟨w.heap.size, 1, none⟩ = some (.int .i64 x.e) ∧ wr.cell? ⟨w.heap.size, 2, none⟩ = some (.int .i64 x.s) ∧ wr.cell? ⟨w.heap.size, 3, none⟩ = some (.int .i64 x.f) ∧ wr.cell? ⟨w.heap.size, 4, none⟩ = some (.int .i64 x.u) ∧ wr.cell? ⟨w.heap.size, 5, none⟩ = some (.slice x.A x.n x.cap) ∧ wr.cell? ⟨w.heap.size, 6, none⟩ = some (.int .i64 x.c) := ⟨st.box.cell 0 _ rfl, st.box.cell 1 _ rfl, st.box.cell 2 _ rfl, st.box.cell 3 _ rfl, st.box.cell 4 _ rfl, st.box.cell 5 _ rfl, st.box.cell 6 _ rfl⟩
      cases hck : chkC x
      · rw [hck] at KQ
        go_wp2_with fail
        refine (KQ.out _ st.low).mono ?_
        rintro e w6 ⟨rfl, hb⟩
        replace st := st.next hb
        clear hb q0 q1 q2 q3 q4 q5 q6
        go_wp2_with fail
        refine (live_any _).mono ?_
        rintro e w7 ⟨rfl, hb⟩
        replace st := st.next hb
        go_wp2_with fail
        go_ret
        exact ⟨rfl, st.low⟩
      · rw [hck] at KQ
        go_wp2_with fail
        refine (KQ.out _ st.low).mono ?_
        rintro e w6 ⟨rfl, hb⟩
        replace st := st.next hb
        clear hb q0 q1 q2 q3 q4 q5 q6
        obtain ⟨q0, q1, q2, q3, q4, q5, q6⟩ : w6.cell? ⟨w.heap.size, 0, none⟩ = some (.int .i64 x.j) ∧ w6.cell? ⟨w.heap.size, 1, none⟩ = some (.int .i64 x.e) ∧ w6.cell? ⟨w.heap.size, 2, none⟩ = some (.int .i64 x.s) ∧ w6.cell? ⟨w.heap.size, 3, none⟩ = some (.int .i64 x.f) ∧ w6.cell? ⟨w.heap.size, 4, none⟩ = some (.int .i64 x.u) ∧ w6.cell? ⟨w.heap.size, 5, none⟩ = some (.slice x.A x.n x.cap) ∧ w6.cell? ⟨w.heap.size, 6, none⟩ = some (.int .i64 x.c) := ⟨st.box.cell 0 _ rfl, st.box.cell 1 _ rfl, st.box.cell 2 _ rfl, st.box.cell 3 _ rfl, st.box.cell 4 _ rfl, st.box.cell 5 _ rfl, st.box.cell 6 _ rfl⟩
        by_cases hul : x.u ≤ last
        · go_wp2_with fail
          refine (live_any _).mono ?_
          rintro e w7 ⟨rfl, hb⟩
          replace st := st.next hb
          go_wp2_with fail
          go_ret
          exact ⟨rfl, st.low⟩
        · have KU := Lib.hid (st.use x hx last (by omega))
          rw [hck, useOf_room m1 HU.out (x.pl hx.pk) (by omega)] at KU
          go_wp2_with fail
          refine KU.out.mono ?_
          clear st KU
          rintro e w8 ⟨rfl, st⟩
          go_wp2_with fail
          refine st.len.mono ?_
          rintro e w9 ⟨rfl, rfl⟩
          go_wp2_with fail
          refine (live_any _).mono ?_
          rintro e w10 ⟨rfl, hb⟩
          replace st := st.next hb
          go_wp2_with fail
          go_ret
          exact ⟨rfl, st.low⟩
end Go.Proofs.Ytiokpflciagdoaa
