/- The law ReplayBack, walked. -/
import Derived.Test.YtiokpflciagdoaaB0
namespace Go.Proofs.Ytiokpflciagdoaa
open Go.RowKit Go.Maps

set_option maxRecDepth 100000 in
set_option maxHeartbeats 4000000 in
theorem back_big (ep now : Int) (A : Option Addr) (n cap : Nat) (os : List OpR) (x : Cr) (w : World) (hs : ScriptAt w A os) (hn : os.length = n) (hm : n ≤ maxLen) (_hx : CrAt w x) (hsm : smallB os 60 = false) : Calls Try.prog 5 #[.agg #[.int .i64 x.j, .int .i64 x.e, .int .i64 x.s, .int .i64 x.f, .int .i64 x.u, .slice x.A x.n x.cap, .int .i64 x.c, .int .i64 ep, .int .i64 now, .slice A n cap]] w fun e w' => e = .returned (.bool true) ∧ Below w.heap.size w w' := by
  have hb0 : Below w.heap.size w ((w.alloc (.cells #[.int .i64 x.j, .int .i64 x.e, .int .i64 x.s, .int .i64 x.f, .int .i64 x.u, .slice x.A x.n x.cap, .int .i64 x.c, .int .i64 ep, .int .i64 now, .slice A n cap] 50)).alloc (.cells #[.int .i64 x.j, .int .i64 x.e, .int .i64 x.s, .int .i64 x.f, .int .i64 x.u, .slice x.A x.n x.cap, .int .i64 x.c] 31)).drew := ((below_alloc w (.cells #[.int .i64 x.j, .int .i64 x.e, .int .i64 x.s, .int .i64 x.f, .int .i64 x.u, .slice x.A x.n x.cap, .int .i64 x.c, .int .i64 ep, .int .i64 now, .slice A n cap] 50)).alloc (by simp) (.cells #[.int .i64 x.j, .int .i64 x.e, .int .i64 x.s, .int .i64 x.f, .int .i64 x.u, .slice x.A x.n x.cap, .int .i64 x.c] 31)).drew
  have k0 : Bk ((w.alloc (.cells #[.int .i64 x.j, .int .i64 x.e, .int .i64 x.s, .int .i64 x.f, .int .i64 x.u, .slice x.A x.n x.cap, .int .i64 x.c, .int .i64 ep, .int .i64 now, .slice A n cap] 50)).alloc (.cells #[.int .i64 x.j, .int .i64 x.e, .int .i64 x.s, .int .i64 x.f, .int .i64 x.u, .slice x.A x.n x.cap, .int .i64 x.c] 31)).drew (w.heap.size + 1) 31 #[.int .i64 x.j, .int .i64 x.e, .int .i64 x.s, .int .i64 x.f, .int .i64 x.u, .slice x.A x.n x.cap, .int .i64 x.c] := by
    have := Bk.new (w.alloc (.cells #[.int .i64 x.j, .int .i64 x.e, .int .i64 x.s, .int .i64 x.f, .int .i64 x.u, .slice x.A x.n x.cap, .int .i64 x.c, .int .i64 ep, .int .i64 now, .slice A n cap] 50)) 31 #[.int .i64 x.j, .int .i64 x.e, .int .i64 x.s, .int .i64 x.f, .int .i64 x.u, .slice x.A x.n x.cap, .int .i64 x.c]
    rw [size_alloc] at this
    exact this.drew
  have KS := Lib.hid (fun V (hV : Below w.heap.size w V) => small_any A n cap os 60 V (hs.below hV) hn hm)
  rw [hsm] at KS
  clear hn hsm
  go_enter Try.func5, Try.ntmps5
  go_wp2_with fail
  go_region
  go_wp2_with fail
  generalize ((w.alloc (.cells #[.int .i64 x.j, .int .i64 x.e, .int .i64 x.s, .int .i64 x.f, .int .i64 x.u, .slice x.A x.n x.cap, .int .i64 x.c, .int .i64 ep, .int .i64 now, .slice A n cap] 50)).alloc (.cells #[.int .i64 x.j, .int .i64 x.e, .int .i64 x.s, .int .i64 x.f, .int .i64 x.u, .slice x.A x.n x.cap, .int .i64 x.c] 31)).drew = V0 at *
  refine (KS.out _ hb0).mono ?_
  rintro e w1 ⟨rfl, rfl⟩
  go_wp2_with fail
  refine (live_any _).mono ?_
  rintro e w2 ⟨rfl, hb⟩
  go_wp2_with fail
  go_ret
  exact ⟨rfl, bmore hb0 hb⟩
set_option maxRecDepth 100000 in
set_option maxHeartbeats 4000000 in
theorem back_long (ep now : Int) (A : Option Addr) (n cap : Nat) (os : List OpR) (x : Cr) (w : World) (hs : ScriptAt w A os) (hn : os.length = n) (hm : n ≤ maxLen) (_hx : CrAt w x) (hsm : smallB os 60 = true) (h20 : 20 < x.n) : Calls Try.prog 5 #[.agg #[.int .i64 x.j, .int .i64 x.e, .int .i64 x.s, .int .i64 x.f, .int .i64 x.u, .slice x.A x.n x.cap, .int .i64 x.c, .int .i64 ep, .int .i64 now, .slice A n cap]] w fun e w' => e = .returned (.bool true) ∧ Below w.heap.size w w' := by
  have hb0 : Below w.heap.size w ((w.alloc (.cells #[.int .i64 x.j, .int .i64 x.e, .int .i64 x.s, .int .i64 x.f, .int .i64 x.u, .slice x.A x.n x.cap, .int .i64 x.c, .int .i64 ep, .int .i64 now, .slice A n cap] 50)).alloc (.cells #[.int .i64 x.j, .int .i64 x.e, .int .i64 x.s, .int .i64 x.f, .int .i64 x.u, .slice x.A x.n x.cap, .int .i64 x.c] 31)).drew := ((below_alloc w (.cells #[.int .i64 x.j, .int .i64 x.e, .int .i64 x.s, .int .i64 x.f, .int .i64 x.u, .slice x.A x.n x.cap, .int .i64 x.c, .int .i64 ep, .int .i64 now, .slice A n cap] 50)).alloc (by simp) (.cells #[.int .i64 x.j, .int .i64 x.e, .int .i64 x.s, .int .i64 x.f, .int .i64 x.u, .slice x.A x.n x.cap, .int .i64 x.c] 31)).drew
  have k0 : Bk ((w.alloc (.cells #[.int .i64 x.j, .int .i64 x.e, .int .i64 x.s, .int .i64 x.f, .int .i64 x.u, .slice x.A x.n x.cap, .int .i64 x.c, .int .i64 ep, .int .i64 now, .slice A n cap] 50)).alloc (.cells #[.int .i64 x.j, .int .i64 x.e, .int .i64 x.s, .int .i64 x.f, .int .i64 x.u, .slice x.A x.n x.cap, .int .i64 x.c] 31)).drew (w.heap.size + 1) 31 #[.int .i64 x.j, .int .i64 x.e, .int .i64 x.s, .int .i64 x.f, .int .i64 x.u, .slice x.A x.n x.cap, .int .i64 x.c] := by
    have := Bk.new (w.alloc (.cells #[.int .i64 x.j, .int .i64 x.e, .int .i64 x.s, .int .i64 x.f, .int .i64 x.u, .slice x.A x.n x.cap, .int .i64 x.c, .int .i64 ep, .int .i64 now, .slice A n cap] 50)) 31 #[.int .i64 x.j, .int .i64 x.e, .int .i64 x.s, .int .i64 x.f, .int .i64 x.u, .slice x.A x.n x.cap, .int .i64 x.c]
    rw [size_alloc] at this
    exact this.drew
  have KS := Lib.hid (fun V (hV : Below w.heap.size w V) => small_any A n cap os 60 V (hs.below hV) hn hm)
  rw [hsm] at KS
  clear hn hsm
  have t0 : decide ((20 : Int) < (x.n : Int)) = true := by simp; omega
  go_enter Try.func5, Try.ntmps5
  go_wp2_with fail
  go_region
  go_wp2_with fail
  generalize ((w.alloc (.cells #[.int .i64 x.j, .int .i64 x.e, .int .i64 x.s, .int .i64 x.f, .int .i64 x.u, .slice x.A x.n x.cap, .int .i64 x.c, .int .i64 ep, .int .i64 now, .slice A n cap] 50)).alloc (.cells #[.int .i64 x.j, .int .i64 x.e, .int .i64 x.s, .int .i64 x.f, .int .i64 x.u, .slice x.A x.n x.cap, .int .i64 x.c] 31)).drew = V0 at *
  refine (KS.out _ hb0).mono ?_
  rintro e w1 ⟨rfl, rfl⟩
  have q5 := k0.cell 5 _ rfl
  go_wp2_with fail
  refine (live_any _).mono ?_
  rintro e w2 ⟨rfl, hb⟩
  go_wp2_with fail
  go_ret
  exact ⟨rfl, bmore hb0 hb⟩
set_option maxRecDepth 100000 in
set_option maxHeartbeats 4000000 in
theorem back_low (ep now : Int) (A : Option Addr) (n cap : Nat) (os : List OpR) (x : Cr) (w : World) (hs : ScriptAt w A os) (hn : os.length = n) (hm : n ≤ maxLen) (_hx : CrAt w x) (hsm : smallB os 60 = true) (h20 : x.n ≤ 20) (hep : ep < x.e) : Calls Try.prog 5 #[.agg #[.int .i64 x.j, .int .i64 x.e, .int .i64 x.s, .int .i64 x.f, .int .i64 x.u, .slice x.A x.n x.cap, .int .i64 x.c, .int .i64 ep, .int .i64 now, .slice A n cap]] w fun e w' => e = .returned (.bool true) ∧ Below w.heap.size w w' := by
  have hb0 : Below w.heap.size w ((w.alloc (.cells #[.int .i64 x.j, .int .i64 x.e, .int .i64 x.s, .int .i64 x.f, .int .i64 x.u, .slice x.A x.n x.cap, .int .i64 x.c, .int .i64 ep, .int .i64 now, .slice A n cap] 50)).alloc (.cells #[.int .i64 x.j, .int .i64 x.e, .int .i64 x.s, .int .i64 x.f, .int .i64 x.u, .slice x.A x.n x.cap, .int .i64 x.c] 31)).drew := ((below_alloc w (.cells #[.int .i64 x.j, .int .i64 x.e, .int .i64 x.s, .int .i64 x.f, .int .i64 x.u, .slice x.A x.n x.cap, .int .i64 x.c, .int .i64 ep, .int .i64 now, .slice A n cap] 50)).alloc (by simp) (.cells #[.int .i64 x.j, .int .i64 x.e, .int .i64 x.s, .int .i64 x.f, .int .i64 x.u, .slice x.A x.n x.cap, .int .i64 x.c] 31)).drew
  have k0 : Bk ((w.alloc (.cells #[.int .i64 x.j, .int .i64 x.e, .int .i64 x.s, .int .i64 x.f, .int .i64 x.u, .slice x.A x.n x.cap, .int .i64 x.c, .int .i64 ep, .int .i64 now, .slice A n cap] 50)).alloc (.cells #[.int .i64 x.j, .int .i64 x.e, .int .i64 x.s, .int .i64 x.f, .int .i64 x.u, .slice x.A x.n x.cap, .int .i64 x.c] 31)).drew (w.heap.size + 1) 31 #[.int .i64 x.j, .int .i64 x.e, .int .i64 x.s, .int .i64 x.f, .int .i64 x.u, .slice x.A x.n x.cap, .int .i64 x.c] := by
    have := Bk.new (w.alloc (.cells #[.int .i64 x.j, .int .i64 x.e, .int .i64 x.s, .int .i64 x.f, .int .i64 x.u, .slice x.A x.n x.cap, .int .i64 x.c, .int .i64 ep, .int .i64 now, .slice A n cap] 50)) 31 #[.int .i64 x.j, .int .i64 x.e, .int .i64 x.s, .int .i64 x.f, .int .i64 x.u, .slice x.A x.n x.cap, .int .i64 x.c]
    rw [size_alloc] at this
    exact this.drew
  have KS := Lib.hid (fun V (hV : Below w.heap.size w V) => small_any A n cap os 60 V (hs.below hV) hn hm)
  rw [hsm] at KS
  clear hn hsm
  have t0 : decide ((20 : Int) < (x.n : Int)) = false := by simp; omega
  have t1 : decide (ep < x.e) = true := by simpa using hep
  go_enter Try.func5, Try.ntmps5
  go_wp2_with fail
  go_region
  go_wp2_with fail
  generalize ((w.alloc (.cells #[.int .i64 x.j, .int .i64 x.e, .int .i64 x.s, .int .i64 x.f, .int .i64 x.u, .slice x.A x.n x.cap, .int .i64 x.c, .int .i64 ep, .int .i64 now, .slice A n cap] 50)).alloc (.cells #[.int .i64 x.j, .int .i64 x.e, .int .i64 x.s, .int .i64 x.f, .int .i64 x.u, .slice x.A x.n x.cap, .int .i64 x.c] 31)).drew = V0 at *
  refine (KS.out _ hb0).mono ?_
  rintro e w1 ⟨rfl, rfl⟩
  have q5 := k0.cell 5 _ rfl
  have q1 := k0.cell 1 _ rfl
  go_wp2_with fail
  refine (live_any _).mono ?_
  rintro e w2 ⟨rfl, hb⟩
  go_wp2_with fail
  go_ret
  exact ⟨rfl, bmore hb0 hb⟩
set_option maxRecDepth 100000 in
set_option maxHeartbeats 4000000 in
theorem back_go (ep now : Int) (A : Option Addr) (n cap : Nat) (os : List OpR) (x : Cr) (w : World) (hs : ScriptAt w A os) (hn : os.length = n) (hm : n ≤ maxLen) (hx : CrAt w x) (hsm : smallB os 60 = true) (h20 : x.n ≤ 20) (hep : x.e ≤ ep) (hwe : wf ep)
    (KQ : ∀ V, Below w.heap.size w V → Calls Try.prog 20 #[.agg #[.int .i64 x.j, .int .i64 x.e, .int .i64 x.s, .int .i64 x.f, .int .i64 x.u, .slice x.A x.n x.cap, .int .i64 x.c]] V fun e w' => e = .returned (.int .i64 (oneIf (!chkC x))) ∧ Below V.heap.size V w') : Calls Try.prog 5 #[.agg #[.int .i64 x.j, .int .i64 x.e, .int .i64 x.s, .int .i64 x.f, .int .i64 x.u, .slice x.A x.n x.cap, .int .i64 x.c, .int .i64 ep, .int .i64 now, .slice A n cap]] w fun e w' => e = .returned (.bool true) ∧ Below w.heap.size w w' := by
  have hb0 : Below w.heap.size w ((w.alloc (.cells #[.int .i64 x.j, .int .i64 x.e, .int .i64 x.s, .int .i64 x.f, .int .i64 x.u, .slice x.A x.n x.cap, .int .i64 x.c, .int .i64 ep, .int .i64 now, .slice A n cap] 50)).alloc (.cells #[.int .i64 x.j, .int .i64 x.e, .int .i64 x.s, .int .i64 x.f, .int .i64 x.u, .slice x.A x.n x.cap, .int .i64 x.c] 31)).drew := ((below_alloc w (.cells #[.int .i64 x.j, .int .i64 x.e, .int .i64 x.s, .int .i64 x.f, .int .i64 x.u, .slice x.A x.n x.cap, .int .i64 x.c, .int .i64 ep, .int .i64 now, .slice A n cap] 50)).alloc (by simp) (.cells #[.int .i64 x.j, .int .i64 x.e, .int .i64 x.s, .int .i64 x.f, .int .i64 x.u, .slice x.A x.n x.cap, .int .i64 x.c] 31)).drew
  have k0 : Bk ((w.alloc (.cells #[.int .i64 x.j, .int .i64 x.e, .int .i64 x.s, .int .i64 x.f, .int .i64 x.u, .slice x.A x.n x.cap, .int .i64 x.c, .int .i64 ep, .int .i64 now, .slice A n cap] 50)).alloc (.cells #[.int .i64 x.j, .int .i64 x.e, .int .i64 x.s, .int .i64 x.f, .int .i64 x.u, .slice x.A x.n x.cap, .int .i64 x.c] 31)).drew (w.heap.size + 1) 31 #[.int .i64 x.j, .int .i64 x.e, .int .i64 x.s, .int .i64 x.f, .int .i64 x.u, .slice x.A x.n x.cap, .int .i64 x.c] := by
    have := Bk.new (w.alloc (.cells #[.int .i64 x.j, .int .i64 x.e, .int .i64 x.s, .int .i64 x.f, .int .i64 x.u, .slice x.A x.n x.cap, .int .i64 x.c, .int .i64 ep, .int .i64 now, .slice A n cap] 50)) 31 #[.int .i64 x.j, .int .i64 x.e, .int .i64 x.s, .int .i64 x.f, .int .i64 x.u, .slice x.A x.n x.cap, .int .i64 x.c]
    rw [size_alloc] at this
    exact this.drew
  have KS := Lib.hid (fun V (hV : Below w.heap.size w V) => small_any A n cap os 60 V (hs.below hV) hn hm)
  have hn60 : n ≤ 60 := by
    unfold smallB at hsm
    rw [Bool.and_eq_true, hn] at hsm
    have := hsm.2
    simp only [decide_eq_true_eq] at this
    omega
  rw [hsm] at KS
  have HN := Lib.hid hn
  clear hn hsm
  replace KQ := Lib.hid KQ
  have t0 : decide ((20 : Int) < (x.n : Int)) = false := by simp; omega
  have t1 : decide (ep < x.e) = false := by simp; omega
  go_enter Try.func5, Try.ntmps5
  go_wp2_with fail
  go_region
  go_wp2_with fail
  generalize ((w.alloc (.cells #[.int .i64 x.j, .int .i64 x.e, .int .i64 x.s, .int .i64 x.f, .int .i64 x.u, .slice x.A x.n x.cap, .int .i64 x.c, .int .i64 ep, .int .i64 now, .slice A n cap] 50)).alloc (.cells #[.int .i64 x.j, .int .i64 x.e, .int .i64 x.s, .int .i64 x.f, .int .i64 x.u, .slice x.A x.n x.cap, .int .i64 x.c] 31)).drew = V0 at *
  refine (KS.out _ hb0).mono ?_
  rintro e w1 ⟨rfl, rfl⟩
  have q5 := k0.cell 5 _ rfl
  have q1 := k0.cell 1 _ rfl
  go_wp2_with fail
  clear q1 q5 KS
  refine (new_ok 8 _ (by omega) (by omega)).mono ?_
  rintro e w2 ⟨p, bk, bt, rfl, hp, hk, ht, hC, hb⟩
  have hlt0 := k0.lt
  have hs0 := hb0.size
  have st : Rm w w2 (w.heap.size + 1) p bk bt #[.int .i64 x.j, .int .i64 x.e, .int .i64 x.s, .int .i64 x.f, .int .i64 x.u, .slice x.A x.n x.cap, .int .i64 x.c] 8 [] [] := ⟨k0.next hb, hC, bmore hb0 hb, ⟨by omega, by omega⟩, ⟨by omega, by omega⟩⟩
  clear hC hb hb0 k0 hp hk ht hlt0 hs0
  have q0 := st.box.cell 0 _ rfl
  go_wp2_with fail
  clear q0
  have KR := Lib.hid (st.rev ⟨x.j, hx.wj⟩ ep hwe (by simp))
  have HF := Lib.hid (fun h => revB_first (j := ⟨x.j, hx.wj⟩) (e := x.e) (ep := ep) h hep)
  have HT0 := revOf_length (T := []) (by simp) ⟨x.j, hx.wj⟩ ep
  generalize revOf [] ⟨x.j, hx.wj⟩ ep = R0 at *
  obtain ⟨r0, T0⟩ := R0
  simp only at KR HF HT0
  refine KR.out.mono ?_
  clear st KR
  rintro e w3 ⟨rfl, st⟩
  by_cases hr0 : r0 = 0
  case neg =>
    have tr : (r0 == 0) = false := by simpa using hr0
    go_wp2_with fail
    refine (live_any _).mono ?_
    rintro e w4 ⟨rfl, hb⟩
    replace st := st.next hb
    go_wp2_with fail
    go_ret
    exact ⟨rfl, st.low⟩
  subst hr0
  have HRV := Lib.hid (HF.out rfl)
  clear HF
  go_wp2_with fail
  go_loopw [8] (fun i wr => ∃ (k : Nat) (L : List (Pl × Int)) (T : List (Jb × Int)), k ≤ n ∧ i = .int .i64 k ∧ Hid (revB T ⟨x.j, hx.wj⟩ x.e = true) ∧ T.length ≤ 64 ∧ (L.length : Int) ≤ 8 ∧ Rm w wr (w.heap.size + 1) p bk bt #[.int .i64 x.j, .int .i64 x.e, .int .i64 x.s, .int .i64 x.f, .int .i64 x.u, .slice x.A x.n x.cap, .int .i64 x.c] 8 L T)
    (fun i _ => n - (intOf i).toNat)
  case atStart => exact ⟨0, [], T0, Nat.zero_le _, rfl, HRV, HT0, by simp, st⟩
  case round =>
    clear st HRV HT0
    obtain ⟨k, L, T, hk, rfl, HRV, hT64, hLm, st⟩ := hrel
    by_cases hlt : k < n
    · obtain ⟨ad, o, rfl, hbl, hok, hoat, hc⟩ := (hs.below st.low).at_ (k := k) (by rw [HN.out]; exact hlt)
      have HO := Lib.hid hok
      clear hok hbl
      have hop := hs.1 o (List.mem_of_getElem? HO.out)
      have hcr := hop.cr
      have hwj := hop.wj
      have hwp := hop.we
      clear hop hoat
      have c0 := hc.e0
      by_cases hd : o.d = 1
      · have td : (o.d == 1) = true := by simpa using hd
        go_wp2_with fail
        refine region_tail 11 (by kernel_rfl) (by kernel_rfl) (fun w3 hw => ?_)
        replace st := st.hid hw
        replace hc : OpCells w3 (ad.add (k * 11)) o := by rw [hw.out]; exact ⟨hc.e0, hc.e1, hc.e2, hc.e3, hc.e4, hc.e5, hc.e6, hc.e7, hc.e8, hc.e9, hc.e10⟩
        clear hw c0
        obtain ⟨c0, c1, c2, c3, c4, c5, c6, c7, c8, c9, c10⟩ := hc
        simp only [List.take_succ_cons, List.take_zero, List.drop_succ_cons, List.drop_zero]
        repeat still_step
        refine wpStill_nil ?_
        clear c0 c1 c2 c3 c4 c5 c6 c7 c8 c9 c10
        have KU := Lib.hid (st.rev ⟨o.job, hwj⟩ o.ep hwp hT64)
        have HS := Lib.hid (revB_stays HRV.out ⟨o.job, hwj⟩ o.ep)
        have hT2 := revOf_length hT64 ⟨o.job, hwj⟩ o.ep
        generalize revOf T ⟨o.job, hwj⟩ o.ep = R at *
        go_wp2_with fail
        refine KU.out.mono ?_
        clear st KU
        rintro e w4 ⟨rfl, st⟩
        go_wp2_with fail
        go_roundw
        case rel => exact ⟨k + 1, L, R.2, by omega, by go_num, HS, hT2, hLm, st⟩
        case measure => simp [intOf]; omega
      · have td : (o.d == 1) = false := by simpa using hd
        go_wp2_with fail
        refine region_tail 11 (by kernel_rfl) (by kernel_rfl) (fun w3 hw => ?_)
        replace st := st.hid hw
        replace hc : OpCells w3 (ad.add (k * 11)) o := by rw [hw.out]; exact ⟨hc.e0, hc.e1, hc.e2, hc.e3, hc.e4, hc.e5, hc.e6, hc.e7, hc.e8, hc.e9, hc.e10⟩
        clear hw c0
        obtain ⟨c0, c1, c2, c3, c4, c5, c6, c7, c8, c9, c10⟩ := hc
        simp only [List.take_succ_cons, List.take_zero, List.drop_succ_cons, List.drop_zero]
        repeat still_step
        refine wpStill_nil ?_
        clear c0 c1 c2 c3 c4 c5 c6 c7 c8 c9 c10
        have KU := Lib.hid (st.use o.c hcr o.now (by omega))
        have hl2 := useOf_length hLm (chkC o.c) T (o.c.pl hcr.pk) o.c.u o.now
        generalize useOf (chkC o.c) 8 L T (o.c.pl hcr.pk) o.c.u o.now = R at *
        go_wp2_with fail
        refine KU.out.mono ?_
        clear st KU
        rintro e w4 ⟨rfl, st⟩
        go_wp2_with fail
        go_roundw
        case rel => exact ⟨k + 1, R.2, T, by omega, by go_num, HRV, hT64, hl2, st⟩
        case measure => simp [intOf]; omega
    · obtain ⟨q0, q1, q2, q3, q4, q5, q6⟩ : wr.cell? ⟨w.heap.size + 1, 0, none⟩ = some (.int .i64 x.j) ∧ wr.cell? ⟨w.heap.size + 1, 1, none⟩ = some (.int .i64 x.e) ∧ wr.cell? ⟨w.heap.size + 1, 2, none⟩ = some (.int .i64 x.s) ∧ wr.cell? ⟨w.heap.size + 1, 3, none⟩ = some (.int .i64 x.f) ∧ wr.cell? ⟨w.heap.size + 1, 4, none⟩ = some (.int .i64 x.u) ∧ wr.cell? ⟨w.heap.size + 1, 5, none⟩ = some (.slice x.A x.n x.cap) ∧ wr.cell? ⟨w.heap.size + 1, 6, none⟩ = some (.int .i64 x.c) := ⟨st.box.cell 0 _ rfl, st.box.cell 1 _ rfl, st.box.cell 2 _ rfl, st.box.cell 3 _ rfl, st.box.cell 4 _ rfl, st.box.cell 5 _ rfl, st.box.cell 6 _ rfl⟩
      have KU := Lib.hid (st.use x hx now (by omega))
      rw [useOf_back (x := x.pl hx.pk) HRV.out] at KU
      go_wp2_with fail
      cases hck : chkC x
      · rw [hck] at KU KQ
        refine KU.out.mono ?_
        clear st KU q0 q1 q2 q3 q4 q5 q6
        rintro e w4 ⟨rfl, st⟩
        obtain ⟨q0, q1, q2, q3, q4, q5, q6⟩ : w4.cell? ⟨w.heap.size + 1, 0, none⟩ = some (.int .i64 x.j) ∧ w4.cell? ⟨w.heap.size + 1, 1, none⟩ = some (.int .i64 x.e) ∧ w4.cell? ⟨w.heap.size + 1, 2, none⟩ = some (.int .i64 x.s) ∧ w4.cell? ⟨w.heap.size + 1, 3, none⟩ = some (.int .i64 x.f) ∧ w4.cell? ⟨w.heap.size + 1, 4, none⟩ = some (.int .i64 x.u) ∧ w4.cell? ⟨w.heap.size + 1, 5, none⟩ = some (.slice x.A x.n x.cap) ∧ w4.cell? ⟨w.heap.size + 1, 6, none⟩ = some (.int .i64 x.c) := ⟨st.box.cell 0 _ rfl, st.box.cell 1 _ rfl, st.box.cell 2 _ rfl, st.box.cell 3 _ rfl, st.box.cell 4 _ rfl, st.box.cell 5 _ rfl, st.box.cell 6 _ rfl⟩
        have KV := Lib.hid (st.revoked x hx)
        rw [show revB T (x.pl hx.pk).jb x.e = true from HRV.out] at KV
        go_wp2_with fail
        refine KV.out.mono ?_
        clear st KV q0 q1 q2 q3 q4 q5 q6
        rintro e w5 ⟨rfl, st⟩
        obtain ⟨q0, q1, q2, q3, q4, q5, q6⟩ : w5.cell? ⟨w.heap.size + 1, 0, none⟩ = some (.int .i64 x.j) ∧ w5.cell? ⟨w.heap.size + 1, 1, none⟩ = some (.int .i64 x.e) ∧ w5.cell? ⟨w.heap.size + 1, 2, none⟩ = some (.int .i64 x.s) ∧ w5.cell? ⟨w.heap.size + 1, 3, none⟩ = some (.int .i64 x.f) ∧ w5.cell? ⟨w.heap.size + 1, 4, none⟩ = some (.int .i64 x.u) ∧ w5.cell? ⟨w.heap.size + 1, 5, none⟩ = some (.slice x.A x.n x.cap) ∧ w5.cell? ⟨w.heap.size + 1, 6, none⟩ = some (.int .i64 x.c) := ⟨st.box.cell 0 _ rfl, st.box.cell 1 _ rfl, st.box.cell 2 _ rfl, st.box.cell 3 _ rfl, st.box.cell 4 _ rfl, st.box.cell 5 _ rfl, st.box.cell 6 _ rfl⟩
        go_wp2_with fail
        refine (KQ.out _ st.low).mono ?_
        rintro e w6 ⟨rfl, hb⟩
        replace st := st.next hb
        clear q0 q1 q2 q3 q4 q5 q6
        go_wp2_with fail
        refine (live_any _).mono ?_
        rintro e w7 ⟨rfl, hb⟩
        replace st := st.next hb
        go_wp2_with fail
        go_ret
        exact ⟨rfl, st.low⟩
      · rw [hck] at KU KQ
        by_cases hu : x.u ≤ now
        · rw [if_neg (by simp), if_pos hu] at KU
          refine KU.out.mono ?_
          clear st KU q0 q1 q2 q3 q4 q5 q6
          rintro e w4 ⟨rfl, st⟩
          obtain ⟨q0, q1, q2, q3, q4, q5, q6⟩ : w4.cell? ⟨w.heap.size + 1, 0, none⟩ = some (.int .i64 x.j) ∧ w4.cell? ⟨w.heap.size + 1, 1, none⟩ = some (.int .i64 x.e) ∧ w4.cell? ⟨w.heap.size + 1, 2, none⟩ = some (.int .i64 x.s) ∧ w4.cell? ⟨w.heap.size + 1, 3, none⟩ = some (.int .i64 x.f) ∧ w4.cell? ⟨w.heap.size + 1, 4, none⟩ = some (.int .i64 x.u) ∧ w4.cell? ⟨w.heap.size + 1, 5, none⟩ = some (.slice x.A x.n x.cap) ∧ w4.cell? ⟨w.heap.size + 1, 6, none⟩ = some (.int .i64 x.c) := ⟨st.box.cell 0 _ rfl, st.box.cell 1 _ rfl, st.box.cell 2 _ rfl, st.box.cell 3 _ rfl, st.box.cell 4 _ rfl, st.box.cell 5 _ rfl, st.box.cell 6 _ rfl⟩
          have KV := Lib.hid (st.revoked x hx)
          rw [show revB T (x.pl hx.pk).jb x.e = true from HRV.out] at KV
          go_wp2_with fail
          refine KV.out.mono ?_
          clear st KV q0 q1 q2 q3 q4 q5 q6
          rintro e w5 ⟨rfl, st⟩
          obtain ⟨q0, q1, q2, q3, q4, q5, q6⟩ : w5.cell? ⟨w.heap.size + 1, 0, none⟩ = some (.int .i64 x.j) ∧ w5.cell? ⟨w.heap.size + 1, 1, none⟩ = some (.int .i64 x.e) ∧ w5.cell? ⟨w.heap.size + 1, 2, none⟩ = some (.int .i64 x.s) ∧ w5.cell? ⟨w.heap.size + 1, 3, none⟩ = some (.int .i64 x.f) ∧ w5.cell? ⟨w.heap.size + 1, 4, none⟩ = some (.int .i64 x.u) ∧ w5.cell? ⟨w.heap.size + 1, 5, none⟩ = some (.slice x.A x.n x.cap) ∧ w5.cell? ⟨w.heap.size + 1, 6, none⟩ = some (.int .i64 x.c) := ⟨st.box.cell 0 _ rfl, st.box.cell 1 _ rfl, st.box.cell 2 _ rfl, st.box.cell 3 _ rfl, st.box.cell 4 _ rfl, st.box.cell 5 _ rfl, st.box.cell 6 _ rfl⟩
          go_wp2_with fail
          refine (KQ.out _ st.low).mono ?_
          rintro e w6 ⟨rfl, hb⟩
          replace st := st.next hb
          clear q0 q1 q2 q3 q4 q5 q6
          have q4 := st.box.cell 4 _ rfl
          go_wp2_with fail
          refine (live_any _).mono ?_
          rintro e w7 ⟨rfl, hb⟩
          replace st := st.next hb
          go_wp2_with fail
          go_ret
          exact ⟨rfl, st.low⟩
        · rw [if_neg (by simp), if_neg hu] at KU
          refine KU.out.mono ?_
          clear st KU q0 q1 q2 q3 q4 q5 q6
          rintro e w4 ⟨rfl, st⟩
          obtain ⟨q0, q1, q2, q3, q4, q5, q6⟩ : w4.cell? ⟨w.heap.size + 1, 0, none⟩ = some (.int .i64 x.j) ∧ w4.cell? ⟨w.heap.size + 1, 1, none⟩ = some (.int .i64 x.e) ∧ w4.cell? ⟨w.heap.size + 1, 2, none⟩ = some (.int .i64 x.s) ∧ w4.cell? ⟨w.heap.size + 1, 3, none⟩ = some (.int .i64 x.f) ∧ w4.cell? ⟨w.heap.size + 1, 4, none⟩ = some (.int .i64 x.u) ∧ w4.cell? ⟨w.heap.size + 1, 5, none⟩ = some (.slice x.A x.n x.cap) ∧ w4.cell? ⟨w.heap.size + 1, 6, none⟩ = some (.int .i64 x.c) := ⟨st.box.cell 0 _ rfl, st.box.cell 1 _ rfl, st.box.cell 2 _ rfl, st.box.cell 3 _ rfl, st.box.cell 4 _ rfl, st.box.cell 5 _ rfl, st.box.cell 6 _ rfl⟩
          have KV := Lib.hid (st.revoked x hx)
          rw [show revB T (x.pl hx.pk).jb x.e = true from HRV.out] at KV
          go_wp2_with fail
          refine KV.out.mono ?_
          clear st KV q0 q1 q2 q3 q4 q5 q6
          rintro e w5 ⟨rfl, st⟩
          obtain ⟨q0, q1, q2, q3, q4, q5, q6⟩ : w5.cell? ⟨w.heap.size + 1, 0, none⟩ = some (.int .i64 x.j) ∧ w5.cell? ⟨w.heap.size + 1, 1, none⟩ = some (.int .i64 x.e) ∧ w5.cell? ⟨w.heap.size + 1, 2, none⟩ = some (.int .i64 x.s) ∧ w5.cell? ⟨w.heap.size + 1, 3, none⟩ = some (.int .i64 x.f) ∧ w5.cell? ⟨w.heap.size + 1, 4, none⟩ = some (.int .i64 x.u) ∧ w5.cell? ⟨w.heap.size + 1, 5, none⟩ = some (.slice x.A x.n x.cap) ∧ w5.cell? ⟨w.heap.size + 1, 6, none⟩ = some (.int .i64 x.c) := ⟨st.box.cell 0 _ rfl, st.box.cell 1 _ rfl, st.box.cell 2 _ rfl, st.box.cell 3 _ rfl, st.box.cell 4 _ rfl, st.box.cell 5 _ rfl, st.box.cell 6 _ rfl⟩
          go_wp2_with fail
          refine (KQ.out _ st.low).mono ?_
          rintro e w6 ⟨rfl, hb⟩
          replace st := st.next hb
          clear q0 q1 q2 q3 q4 q5 q6
          have q4 := st.box.cell 4 _ rfl
          go_wp2_with fail
          refine (live_any _).mono ?_
          rintro e w7 ⟨rfl, hb⟩
          replace st := st.next hb
          go_wp2_with fail
          go_ret
          exact ⟨rfl, st.low⟩
end Go.Proofs.Ytiokpflciagdoaa
