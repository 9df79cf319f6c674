/- The law ReplayOnce, walked. -/
import Derived.Test.YtiokpflciagdoaaO0
import Derived.Deep.CutRange
namespace Go.Proofs.Ytiokpflciagdoaa
open Go.RowKit Go.Maps

theorem Rm.use' {w V : World} {g p bk bt : Nat} {cs : Array Value} {most : Int} {L : List (Pl × Int)} {T : List (Jb × Int)} (st : Rm w V g p bk bt cs most L T) (x : Cr) (hx : CrAt w x) (now : Int) (hL : L.length ≤ 1000) :
    Calls Try.prog 18 #[.pointer (some ⟨p, 0, none⟩), .agg #[.int .i64 x.j, .int .i64 x.e, .int .i64 x.s, .int .i64 x.f, .int .i64 x.u, .slice x.A x.n x.cap, .int .i64 x.c], .int .i64 now] V fun e w' =>
      e = .returned (.int .i64 (useOf (chkC x) most L T (x.pl hx.pk) x.u now).1) ∧ Rm w w' g p bk bt cs most (useOf (chkC x) most L T (x.pl hx.pk) x.u now).2 T ∧ V.grownBy w' (some bk) :=
  (use_any st.cache (x.pl hx.pk) x.f x.u x.A x.n x.cap x.c now x.zs (hx.ints.next st.low) hx.len hx.max hx.wu hL).mono fun _ _ ⟨he, hc, hg⟩ => ⟨he, st.turnK hc hg, hg⟩
set_option maxRecDepth 100000 in
set_option maxHeartbeats 4000000 in
theorem once_big (most now : Int) (A : Option Addr) (n cap : Nat) (os : List OpR) (x : Cr) (w : World) (hs : ScriptAt w A os) (hn : os.length = n) (hm : n ≤ maxLen) (_hx : CrAt w x) (hsm : smallB os 60 = false) : Calls Try.prog 4 #[.agg #[.int .i64 most, .int .i64 x.j, .int .i64 x.e, .int .i64 x.s, .int .i64 x.f, .int .i64 x.u, .slice x.A x.n x.cap, .int .i64 x.c, .int .i64 now, .slice A n cap]] w fun e w' => e = .returned (.bool true) ∧ Below w.heap.size w w' := by
  have hb0 : Below w.heap.size w ((w.alloc (.cells #[.int .i64 most, .int .i64 x.j, .int .i64 x.e, .int .i64 x.s, .int .i64 x.f, .int .i64 x.u, .slice x.A x.n x.cap, .int .i64 x.c, .int .i64 now, .slice A n cap] 44)).alloc (.cells #[.int .i64 x.j, .int .i64 x.e, .int .i64 x.s, .int .i64 x.f, .int .i64 x.u, .slice x.A x.n x.cap, .int .i64 x.c] 31)).drew := ((below_alloc w (.cells #[.int .i64 most, .int .i64 x.j, .int .i64 x.e, .int .i64 x.s, .int .i64 x.f, .int .i64 x.u, .slice x.A x.n x.cap, .int .i64 x.c, .int .i64 now, .slice A n cap] 44)).alloc (by simp) (.cells #[.int .i64 x.j, .int .i64 x.e, .int .i64 x.s, .int .i64 x.f, .int .i64 x.u, .slice x.A x.n x.cap, .int .i64 x.c] 31)).drew
  have k0 : Bk ((w.alloc (.cells #[.int .i64 most, .int .i64 x.j, .int .i64 x.e, .int .i64 x.s, .int .i64 x.f, .int .i64 x.u, .slice x.A x.n x.cap, .int .i64 x.c, .int .i64 now, .slice A n cap] 44)).alloc (.cells #[.int .i64 x.j, .int .i64 x.e, .int .i64 x.s, .int .i64 x.f, .int .i64 x.u, .slice x.A x.n x.cap, .int .i64 x.c] 31)).drew (w.heap.size + 1) 31 #[.int .i64 x.j, .int .i64 x.e, .int .i64 x.s, .int .i64 x.f, .int .i64 x.u, .slice x.A x.n x.cap, .int .i64 x.c] := by
    have := Bk.new (w.alloc (.cells #[.int .i64 most, .int .i64 x.j, .int .i64 x.e, .int .i64 x.s, .int .i64 x.f, .int .i64 x.u, .slice x.A x.n x.cap, .int .i64 x.c, .int .i64 now, .slice A n cap] 44)) 31 #[.int .i64 x.j, .int .i64 x.e, .int .i64 x.s, .int .i64 x.f, .int .i64 x.u, .slice x.A x.n x.cap, .int .i64 x.c]
    rw [size_alloc] at this
    exact this.drew
  have KS := Lib.hid (fun V (hV : Below w.heap.size w V) => small_any A n cap os 60 V (hs.below hV) hn hm)
  rw [hsm] at KS
  clear hn hsm
  go_enter Try.func4, Try.ntmps4
  go_wp2_with fail
  go_region
  go_wp2_with fail
  generalize ((w.alloc (.cells #[.int .i64 most, .int .i64 x.j, .int .i64 x.e, .int .i64 x.s, .int .i64 x.f, .int .i64 x.u, .slice x.A x.n x.cap, .int .i64 x.c, .int .i64 now, .slice A n cap] 44)).alloc (.cells #[.int .i64 x.j, .int .i64 x.e, .int .i64 x.s, .int .i64 x.f, .int .i64 x.u, .slice x.A x.n x.cap, .int .i64 x.c] 31)).drew = V0 at *
  refine (KS.out _ hb0).mono ?_
  rintro e w1 ⟨rfl, rfl⟩
  go_wp2_with fail
  refine (live_any _).mono ?_
  rintro e w2 ⟨rfl, hb⟩
  go_wp2_with fail
  go_ret
  exact ⟨rfl, bmore hb0 hb⟩
set_option maxRecDepth 100000 in
set_option maxHeartbeats 4000000 in
theorem once_long (most now : Int) (A : Option Addr) (n cap : Nat) (os : List OpR) (x : Cr) (w : World) (hs : ScriptAt w A os) (hn : os.length = n) (hm : n ≤ maxLen) (_hx : CrAt w x) (hsm : smallB os 60 = true) (h20 : 20 < x.n) : Calls Try.prog 4 #[.agg #[.int .i64 most, .int .i64 x.j, .int .i64 x.e, .int .i64 x.s, .int .i64 x.f, .int .i64 x.u, .slice x.A x.n x.cap, .int .i64 x.c, .int .i64 now, .slice A n cap]] w fun e w' => e = .returned (.bool true) ∧ Below w.heap.size w w' := by
  have hb0 : Below w.heap.size w ((w.alloc (.cells #[.int .i64 most, .int .i64 x.j, .int .i64 x.e, .int .i64 x.s, .int .i64 x.f, .int .i64 x.u, .slice x.A x.n x.cap, .int .i64 x.c, .int .i64 now, .slice A n cap] 44)).alloc (.cells #[.int .i64 x.j, .int .i64 x.e, .int .i64 x.s, .int .i64 x.f, .int .i64 x.u, .slice x.A x.n x.cap, .int .i64 x.c] 31)).drew := ((below_alloc w (.cells #[.int .i64 most, .int .i64 x.j, .int .i64 x.e, .int .i64 x.s, .int .i64 x.f, .int .i64 x.u, .slice x.A x.n x.cap, .int .i64 x.c, .int .i64 now, .slice A n cap] 44)).alloc (by simp) (.cells #[.int .i64 x.j, .int .i64 x.e, .int .i64 x.s, .int .i64 x.f, .int .i64 x.u, .slice x.A x.n x.cap, .int .i64 x.c] 31)).drew
  have k0 : Bk ((w.alloc (.cells #[.int .i64 most, .int .i64 x.j, .int .i64 x.e, .int .i64 x.s, .int .i64 x.f, .int .i64 x.u, .slice x.A x.n x.cap, .int .i64 x.c, .int .i64 now, .slice A n cap] 44)).alloc (.cells #[.int .i64 x.j, .int .i64 x.e, .int .i64 x.s, .int .i64 x.f, .int .i64 x.u, .slice x.A x.n x.cap, .int .i64 x.c] 31)).drew (w.heap.size + 1) 31 #[.int .i64 x.j, .int .i64 x.e, .int .i64 x.s, .int .i64 x.f, .int .i64 x.u, .slice x.A x.n x.cap, .int .i64 x.c] := by
    have := Bk.new (w.alloc (.cells #[.int .i64 most, .int .i64 x.j, .int .i64 x.e, .int .i64 x.s, .int .i64 x.f, .int .i64 x.u, .slice x.A x.n x.cap, .int .i64 x.c, .int .i64 now, .slice A n cap] 44)) 31 #[.int .i64 x.j, .int .i64 x.e, .int .i64 x.s, .int .i64 x.f, .int .i64 x.u, .slice x.A x.n x.cap, .int .i64 x.c]
    rw [size_alloc] at this
    exact this.drew
  have KS := Lib.hid (fun V (hV : Below w.heap.size w V) => small_any A n cap os 60 V (hs.below hV) hn hm)
  rw [hsm] at KS
  clear hn hsm
  have t0 : decide ((20 : Int) < (x.n : Int)) = true := by simp; omega
  go_enter Try.func4, Try.ntmps4
  go_wp2_with fail
  go_region
  go_wp2_with fail
  generalize ((w.alloc (.cells #[.int .i64 most, .int .i64 x.j, .int .i64 x.e, .int .i64 x.s, .int .i64 x.f, .int .i64 x.u, .slice x.A x.n x.cap, .int .i64 x.c, .int .i64 now, .slice A n cap] 44)).alloc (.cells #[.int .i64 x.j, .int .i64 x.e, .int .i64 x.s, .int .i64 x.f, .int .i64 x.u, .slice x.A x.n x.cap, .int .i64 x.c] 31)).drew = V0 at *
  refine (KS.out _ hb0).mono ?_
  rintro e w1 ⟨rfl, rfl⟩
  have q5 := k0.cell 5 _ rfl
  go_wp2_with fail
  refine (live_any _).mono ?_
  rintro e w2 ⟨rfl, hb⟩
  go_wp2_with fail
  go_ret
  exact ⟨rfl, bmore hb0 hb⟩
set_option maxRecDepth 100000 in
set_option maxHeartbeats 4000000 in
theorem once_none (most now : Int) (A : Option Addr) (n cap : Nat) (os : List OpR) (x : Cr) (w : World) (hs : ScriptAt w A os) (hn : os.length = n) (hm : n ≤ maxLen) (_hx : CrAt w x) (hsm : smallB os 60 = true) (h20 : x.n ≤ 20) (hmo : most < 1 ∨ 64 < most) : Calls Try.prog 4 #[.agg #[.int .i64 most, .int .i64 x.j, .int .i64 x.e, .int .i64 x.s, .int .i64 x.f, .int .i64 x.u, .slice x.A x.n x.cap, .int .i64 x.c, .int .i64 now, .slice A n cap]] w fun e w' => e = .returned (.bool true) ∧ Below w.heap.size w w' := by
  have hb0 : Below w.heap.size w ((w.alloc (.cells #[.int .i64 most, .int .i64 x.j, .int .i64 x.e, .int .i64 x.s, .int .i64 x.f, .int .i64 x.u, .slice x.A x.n x.cap, .int .i64 x.c, .int .i64 now, .slice A n cap] 44)).alloc (.cells #[.int .i64 x.j, .int .i64 x.e, .int .i64 x.s, .int .i64 x.f, .int .i64 x.u, .slice x.A x.n x.cap, .int .i64 x.c] 31)).drew := ((below_alloc w (.cells #[.int .i64 most, .int .i64 x.j, .int .i64 x.e, .int .i64 x.s, .int .i64 x.f, .int .i64 x.u, .slice x.A x.n x.cap, .int .i64 x.c, .int .i64 now, .slice A n cap] 44)).alloc (by simp) (.cells #[.int .i64 x.j, .int .i64 x.e, .int .i64 x.s, .int .i64 x.f, .int .i64 x.u, .slice x.A x.n x.cap, .int .i64 x.c] 31)).drew
  have k0 : Bk ((w.alloc (.cells #[.int .i64 most, .int .i64 x.j, .int .i64 x.e, .int .i64 x.s, .int .i64 x.f, .int .i64 x.u, .slice x.A x.n x.cap, .int .i64 x.c, .int .i64 now, .slice A n cap] 44)).alloc (.cells #[.int .i64 x.j, .int .i64 x.e, .int .i64 x.s, .int .i64 x.f, .int .i64 x.u, .slice x.A x.n x.cap, .int .i64 x.c] 31)).drew (w.heap.size + 1) 31 #[.int .i64 x.j, .int .i64 x.e, .int .i64 x.s, .int .i64 x.f, .int .i64 x.u, .slice x.A x.n x.cap, .int .i64 x.c] := by
    have := Bk.new (w.alloc (.cells #[.int .i64 most, .int .i64 x.j, .int .i64 x.e, .int .i64 x.s, .int .i64 x.f, .int .i64 x.u, .slice x.A x.n x.cap, .int .i64 x.c, .int .i64 now, .slice A n cap] 44)) 31 #[.int .i64 x.j, .int .i64 x.e, .int .i64 x.s, .int .i64 x.f, .int .i64 x.u, .slice x.A x.n x.cap, .int .i64 x.c]
    rw [size_alloc] at this
    exact this.drew
  have KS := Lib.hid (fun V (hV : Below w.heap.size w V) => small_any A n cap os 60 V (hs.below hV) hn hm)
  rw [hsm] at KS
  clear hn hsm
  have t0 : decide ((20 : Int) < (x.n : Int)) = false := by simp; omega
  go_enter Try.func4, Try.ntmps4
  go_wp2_with fail
  go_region
  go_wp2_with fail
  generalize ((w.alloc (.cells #[.int .i64 most, .int .i64 x.j, .int .i64 x.e, .int .i64 x.s, .int .i64 x.f, .int .i64 x.u, .slice x.A x.n x.cap, .int .i64 x.c, .int .i64 now, .slice A n cap] 44)).alloc (.cells #[.int .i64 x.j, .int .i64 x.e, .int .i64 x.s, .int .i64 x.f, .int .i64 x.u, .slice x.A x.n x.cap, .int .i64 x.c] 31)).drew = V0 at *
  refine (KS.out _ hb0).mono ?_
  rintro e w1 ⟨rfl, rfl⟩
  have q5 := k0.cell 5 _ rfl
  go_wp2_with fail
  refine (rnew_bad most _ hmo).mono ?_
  rintro e w1' ⟨rfl, rfl⟩
  go_wp2_with fail
  refine (live_any _).mono ?_
  rintro e w2 ⟨rfl, hb⟩
  go_wp2_with fail
  go_ret
  exact ⟨rfl, bmore hb0 hb⟩
set_option maxRecDepth 100000 in
set_option maxHeartbeats 4000000 in
theorem once_go (most now : Int) (A : Option Addr) (n cap : Nat) (os : List OpR) (x : Cr) (w : World) (hs : ScriptAt w A os) (hn : os.length = n) (hm : n ≤ maxLen) (hx : CrAt w x) (hsm : smallB os 60 = true) (h20 : x.n ≤ 20) (m1 : 1 ≤ most) (m2 : most ≤ 64) : Calls Try.prog 4 #[.agg #[.int .i64 most, .int .i64 x.j, .int .i64 x.e, .int .i64 x.s, .int .i64 x.f, .int .i64 x.u, .slice x.A x.n x.cap, .int .i64 x.c, .int .i64 now, .slice A n cap]] w fun e w' => e = .returned (.bool true) ∧ Below w.heap.size w w' := by
  have hb0 : Below w.heap.size w ((w.alloc (.cells #[.int .i64 most, .int .i64 x.j, .int .i64 x.e, .int .i64 x.s, .int .i64 x.f, .int .i64 x.u, .slice x.A x.n x.cap, .int .i64 x.c, .int .i64 now, .slice A n cap] 44)).alloc (.cells #[.int .i64 x.j, .int .i64 x.e, .int .i64 x.s, .int .i64 x.f, .int .i64 x.u, .slice x.A x.n x.cap, .int .i64 x.c] 31)).drew := ((below_alloc w (.cells #[.int .i64 most, .int .i64 x.j, .int .i64 x.e, .int .i64 x.s, .int .i64 x.f, .int .i64 x.u, .slice x.A x.n x.cap, .int .i64 x.c, .int .i64 now, .slice A n cap] 44)).alloc (by simp) (.cells #[.int .i64 x.j, .int .i64 x.e, .int .i64 x.s, .int .i64 x.f, .int .i64 x.u, .slice x.A x.n x.cap, .int .i64 x.c] 31)).drew
  have k0 : Bk ((w.alloc (.cells #[.int .i64 most, .int .i64 x.j, .int .i64 x.e, .int .i64 x.s, .int .i64 x.f, .int .i64 x.u, .slice x.A x.n x.cap, .int .i64 x.c, .int .i64 now, .slice A n cap] 44)).alloc (.cells #[.int .i64 x.j, .int .i64 x.e, .int .i64 x.s, .int .i64 x.f, .int .i64 x.u, .slice x.A x.n x.cap, .int .i64 x.c] 31)).drew (w.heap.size + 1) 31 #[.int .i64 x.j, .int .i64 x.e, .int .i64 x.s, .int .i64 x.f, .int .i64 x.u, .slice x.A x.n x.cap, .int .i64 x.c] := by
    have := Bk.new (w.alloc (.cells #[.int .i64 most, .int .i64 x.j, .int .i64 x.e, .int .i64 x.s, .int .i64 x.f, .int .i64 x.u, .slice x.A x.n x.cap, .int .i64 x.c, .int .i64 now, .slice A n cap] 44)) 31 #[.int .i64 x.j, .int .i64 x.e, .int .i64 x.s, .int .i64 x.f, .int .i64 x.u, .slice x.A x.n x.cap, .int .i64 x.c]
    rw [size_alloc] at this
    exact this.drew
  have KS := Lib.hid (fun V (hV : Below w.heap.size w V) => small_any A n cap os 60 V (hs.below hV) hn hm)
  have hn60 : n ≤ 60 := by
    unfold smallB at hsm
    rw [Bool.and_eq_true, hn] at hsm
    have := hsm.2
    simp only [decide_eq_true_eq] at this
    omega
  rw [hsm] at KS
  have HN := Lib.hid hn
  clear hn hsm
  have t0 : decide ((20 : Int) < (x.n : Int)) = false := by simp; omega
  go_enter Try.func4, Try.ntmps4
  go_wp2_with fail
  go_region
  go_wp2_with fail
  generalize ((w.alloc (.cells #[.int .i64 most, .int .i64 x.j, .int .i64 x.e, .int .i64 x.s, .int .i64 x.f, .int .i64 x.u, .slice x.A x.n x.cap, .int .i64 x.c, .int .i64 now, .slice A n cap] 44)).alloc (.cells #[.int .i64 x.j, .int .i64 x.e, .int .i64 x.s, .int .i64 x.f, .int .i64 x.u, .slice x.A x.n x.cap, .int .i64 x.c] 31)).drew = V0 at *
  refine (KS.out _ hb0).mono ?_
  rintro e w1 ⟨rfl, rfl⟩
  have q5 := k0.cell 5 _ rfl
  go_wp2_with fail
  clear q5 KS
  refine (rnew_ok most _ m1 m2).mono ?_
  rintro e w1' ⟨rfl, _, hb⟩
  replace hb0 := bmore hb0 hb; replace k0 := k0.next hb; clear hb
  go_wp2_with fail
  refine (new_ok most _ m1 m2).mono ?_
  rintro e w2 ⟨p, bk, bt, rfl, hp, hk, ht, hC, hb⟩
  have hlt0 := k0.lt
  have hs0 := hb0.size
  have st : Rm w w2 (w.heap.size + 1) p bk bt #[.int .i64 x.j, .int .i64 x.e, .int .i64 x.s, .int .i64 x.f, .int .i64 x.u, .slice x.A x.n x.cap, .int .i64 x.c] most [] [] := ⟨k0.next hb, hC, bmore hb0 hb, ⟨by omega, by omega⟩, ⟨by omega, by omega⟩⟩
  clear hC hb hb0 k0 hp hk ht hlt0 hs0
  obtain ⟨q0, q1, q2, q3, q4, q5, q6⟩ : w2.cell? ⟨w.heap.size + 1, 0, none⟩ = some (.int .i64 x.j) ∧ w2.cell? ⟨w.heap.size + 1, 1, none⟩ = some (.int .i64 x.e) ∧ w2.cell? ⟨w.heap.size + 1, 2, none⟩ = some (.int .i64 x.s) ∧ w2.cell? ⟨w.heap.size + 1, 3, none⟩ = some (.int .i64 x.f) ∧ w2.cell? ⟨w.heap.size + 1, 4, none⟩ = some (.int .i64 x.u) ∧ w2.cell? ⟨w.heap.size + 1, 5, none⟩ = some (.slice x.A x.n x.cap) ∧ w2.cell? ⟨w.heap.size + 1, 6, none⟩ = some (.int .i64 x.c) := ⟨st.box.cell 0 _ rfl, st.box.cell 1 _ rfl, st.box.cell 2 _ rfl, st.box.cell 3 _ rfl, st.box.cell 4 _ rfl, st.box.cell 5 _ rfl, st.box.cell 6 _ rfl⟩
  go_wp2_with fail
  clear q0 q1 q2 q3 q4 q5 q6
  have KU := Lib.hid (st.use x hx now (by simp))
  have HF := Lib.hid (@once_first (chkC x) most x.u now (x.pl hx.pk))
  generalize useOf (chkC x) most [] [] (x.pl hx.pk) x.u now = R0 at *
  obtain ⟨r0, L0⟩ := R0
  simp only at KU HF
  refine KU.out.mono ?_
  clear st KU
  rintro e w3 ⟨rfl, st⟩
  by_cases hr0 : r0 = 0
  case neg =>
    have tr : (r0 == 0) = false := by simpa using hr0
    go_wp2_with fail
    refine (live_any _).mono ?_
    rintro e w4 ⟨rfl, hb⟩
    replace st := st.next hb
    go_wp2_with fail
    go_ret
    exact ⟨rfl, st.low⟩
  subst hr0
  obtain rfl : L0 = [(x.pl hx.pk, x.u)] := (Prod.mk.inj (HF.out rfl)).2
  clear HF
  go_wp2_with fail
  go_loopw [5, 8] (fun t i wr => ∃ (k : Nat) (nw : Int) (L : List (Pl × Int)) (T : List (Jb × Int)), k ≤ n ∧ i = .int .i64 k ∧ t = .int .i64 nw ∧ Hid (nw < x.u → (x.pl hx.pk, x.u) ∈ L) ∧ T.length ≤ 64 ∧ (L.length : Int) ≤ most ∧ Rm w wr (w.heap.size + 1) p bk bt #[.int .i64 x.j, .int .i64 x.e, .int .i64 x.s, .int .i64 x.f, .int .i64 x.u, .slice x.A x.n x.cap, .int .i64 x.c] most L T)
    (fun _ i _ => n - (intOf i).toNat)
  case atStart => exact ⟨0, now, _, [], Nat.zero_le _, rfl, rfl, Lib.hid (fun _ => by simp), by simp, by simp; omega, st⟩
  case round =>
    clear st
    obtain ⟨k, nw, L, T, hk, rfl, rfl, HI, hT64, hLm, st⟩ := hrel
    by_cases hlt : k < n
    · obtain ⟨ad, o, rfl, hbl, hok, hoat, hc⟩ := (hs.below st.low).at_ (k := k) (by rw [HN.out]; exact hlt)
      have HO := Lib.hid hok
      clear hok hbl
      have hop := hs.1 o (List.mem_of_getElem? HO.out)
      have hcr := hop.cr
      have hwj := hop.wj
      have hwp := hop.we
      clear hop hoat
      obtain ⟨d2, d3, d4, d5, d6, d7⟩ := hc.more
      obtain ⟨c0, c1, c2, c3, c4, c5, c6, c7, c8, c9, c10⟩ := hc
      have hx1 := below_alloc wr (.cells #[.int .i64 o.d, .int .i64 o.c.j, .int .i64 o.c.e, .int .i64 o.c.s, .int .i64 o.c.f, .int .i64 o.c.u, .slice o.c.A o.c.n o.c.cap, .int .i64 o.c.c, .int .i64 o.now, .int .i64 o.job, .int .i64 o.ep] 33)
      have jb := Bk.new wr 33 #[.int .i64 o.d, .int .i64 o.c.j, .int .i64 o.c.e, .int .i64 o.c.s, .int .i64 o.c.f, .int .i64 o.c.u, .slice o.c.A o.c.n o.c.cap, .int .i64 o.c.c, .int .i64 o.now, .int .i64 o.job, .int .i64 o.ep]
      have hjk : wr.heap.size ≠ bk := Nat.ne_of_gt st.cache.ltk
      have hjt : wr.heap.size ≠ bt := Nat.ne_of_gt st.cache.ltt
      have st1 := st.next hx1
      clear hx1 st
      have st := st1
      clear st1
      by_cases hnw : o.now < nw
      · have tn : decide (o.now < nw) = true := by simpa using hnw
        go_wp2_with fail
        go_roundw
        case rel => exact ⟨k + 1, nw, L, T, by omega, by go_num, rfl, HI, hT64, hLm, st⟩
        case measure => simp [intOf]; omega
      · have tn : decide (o.now < nw) = false := by simpa using hnw
        have HGE := Lib.hid (Int.not_lt.1 hnw)
        by_cases hd : o.d = 1
        · have td : (o.d == 1) = true := by simpa using hd
          clear hd
          go_wp2_with fail
          clear c0 c1 c2 c3 c4 c5 c6 c7 c8 c9 c10 d2 d3 d4 d5 d6 d7
          have KU := Lib.hid (st.rev ⟨o.job, hwj⟩ o.ep hwp hT64)
          have hT2 := revOf_length hT64 ⟨o.job, hwj⟩ o.ep
          generalize revOf T ⟨o.job, hwj⟩ o.ep = R at *
          refine KU.out.mono ?_
          clear st KU
          rintro e w4 ⟨rfl, st⟩
          go_wp2_with fail
          go_roundw
          case rel => exact ⟨k + 1, o.now, L, R.2, by omega, by go_num, rfl, Lib.hid (fun h => HI.out (by omega)), hT2, hLm, st⟩
          case measure => simp [intOf]; omega
        · have td : (o.d == 1) = false := by simpa using hd
          clear hd
          go_wp2_with fail
          clear c0 c1 c2 c3 c4 c5 c6 c7 c8 c9 c10 d2 d3 d4 d5 d6 d7
          have KU := Lib.hid (st.use' o.c hcr o.now (by omega))
          have hl2 := useOf_length hLm (chkC o.c) T (o.c.pl hcr.pk) o.c.u o.now
          have HST := Lib.hid (once_stays (most := most) HI.out HGE.out (chkC o.c) T (o.c.pl hcr.pk) o.c.u)
          have HSM := same_or (most := most) HI.out HGE.out (chkC o.c) T (o.c.pl hcr.pk) o.c.u
          generalize useOf (chkC o.c) most L T (o.c.pl hcr.pk) o.c.u o.now = R at *
          obtain ⟨r, L2⟩ := R
          simp only at KU hl2 HST HSM
          refine KU.out.mono ?_
          clear st KU HI
          rintro e w4 ⟨rfl, st, hg4⟩
          replace jb := jb.grown hg4 hjk
          clear hg4
          have b1 := jb.cell 1 _ rfl
          have b2 := jb.cell 2 _ rfl
          have b3 := jb.cell 3 _ rfl
          have b8 := jb.cell 8 _ rfl
          obtain ⟨q0, q1, q2, q3, q4, q5, q6⟩ : w4.cell? ⟨w.heap.size + 1, 0, none⟩ = some (.int .i64 x.j) ∧ w4.cell? ⟨w.heap.size + 1, 1, none⟩ = some (.int .i64 x.e) ∧ w4.cell? ⟨w.heap.size + 1, 2, none⟩ = some (.int .i64 x.s) ∧ w4.cell? ⟨w.heap.size + 1, 3, none⟩ = some (.int .i64 x.f) ∧ w4.cell? ⟨w.heap.size + 1, 4, none⟩ = some (.int .i64 x.u) ∧ w4.cell? ⟨w.heap.size + 1, 5, none⟩ = some (.slice x.A x.n x.cap) ∧ w4.cell? ⟨w.heap.size + 1, 6, none⟩ = some (.int .i64 x.c) := ⟨st.box.cell 0 _ rfl, st.box.cell 1 _ rfl, st.box.cell 2 _ rfl, st.box.cell 3 _ rfl, st.box.cell 4 _ rfl, st.box.cell 5 _ rfl, st.box.cell 6 _ rfl⟩
          have KD := Lib.hid (st.used x hx o.now)
          have HUD := Lib.hid (fun h : o.now < x.u => used_mem st.cache.apart (HST.out h) h)
          have HRL := Lib.hid (show ∀ V, Rm w V (w.heap.size + 1) p bk bt #[.int .i64 x.j, .int .i64 x.e, .int .i64 x.s, .int .i64 x.f, .int .i64 x.u, .slice x.A x.n x.cap, .int .i64 x.c] most L2 T → ∃ (k' : Nat) (nw' : Int) (L' : List (Pl × Int)) (T' : List (Jb × Int)), k' ≤ n ∧ Value.int .i64 ((k : Int) + 1) = .int .i64 k' ∧ Value.int .i64 o.now = .int .i64 nw' ∧ Hid (nw' < x.u → (x.pl hx.pk, x.u) ∈ L') ∧ T'.length ≤ 64 ∧ (L'.length : Int) ≤ most ∧ Rm w V (w.heap.size + 1) p bk bt #[.int .i64 x.j, .int .i64 x.e, .int .i64 x.s, .int .i64 x.f, .int .i64 x.u, .slice x.A x.n x.cap, .int .i64 x.c] most L' T' from
            fun V st => ⟨k + 1, o.now, L2, T, by omega, by go_num, rfl, Lib.hid (fun h => HST.out h), hT64, hl2, st⟩)
          clear jb HST hl2
          unfold sameB Cr.pl at HSM
          simp only at HSM
          go_upto_region 18 with (fail)
          go_cut [107] from 44 to 120 (fun c wx => c = .bool false ∧ wx = w4)
          case first =>
            rcases HSM with hr | ⟨rfl, h | ⟨h, h2⟩ | ⟨h, h2, h3⟩ | ⟨h, h2, h3, h4⟩⟩
            · have tr : (r == 0) = false := by simpa using hr
              go_wp2_with fail
              go_meet
              case rel => exact ⟨rfl, rfl⟩
            · have te : (o.c.j == x.j) = false := by simpa using h
              clear h
              go_wp2_with fail
              go_meet
              case rel => exact ⟨rfl, rfl⟩
            · have te : (o.c.j == x.j) = true := by simpa using h
              have te2 : (o.c.e == x.e) = false := by simpa using h2
              clear h h2
              go_wp2_with fail
              go_meet
              case rel => exact ⟨rfl, rfl⟩
            · have te : (o.c.j == x.j) = true := by simpa using h
              have te2 : (o.c.e == x.e) = true := by simpa using h2
              have te3 : (o.c.s == x.s) = false := by simpa using h3
              clear h h2 h3
              go_wp2_with fail
              go_meet
              case rel => exact ⟨rfl, rfl⟩
            · have te : (o.c.j == x.j) = true := by simpa using h
              have te2 : (o.c.e == x.e) = true := by simpa using h2
              have te3 : (o.c.s == x.s) = true := by simpa using h3
              have tU : decide (o.now < x.u) = false := by simpa using h4
              clear h h2 h3 h4
              go_wp2_with fail
              go_meet
              case rel => exact ⟨rfl, rfl⟩
          case rest =>
            obtain ⟨rfl, rfl⟩ := hcut
            by_cases hU : o.now < x.u
            · have tU : decide (o.now < x.u) = true := by simpa using hU
              rw [HUD.out hU] at KD
              clear HUD HSM
              go_wp2_with fail
              refine KD.out.mono ?_
              clear st KD
              rintro e w5 ⟨rfl, st⟩
              go_wp2_with fail
              go_roundw
              case rel => exact HRL.out _ st
              case measure => simp [intOf]; omega
            · have tU : decide (o.now < x.u) = false := by simpa using hU
              clear HUD KD HSM
              go_wp2_with fail
              go_roundw
              case rel => exact HRL.out _ st
              case measure => simp [intOf]; omega
    · go_wp2_with fail
      refine st.len.mono ?_
      rintro e w5 ⟨rfl, rfl⟩
      have tl : decide ((L.length : Int) ≤ most) = true := by simpa using hLm
      go_wp2_with fail
      refine (live_any _).mono ?_
      rintro e w6 ⟨rfl, hb⟩
      replace st := st.next hb
      go_wp2_with fail
      go_ret
      exact ⟨rfl, st.low⟩
end Go.Proofs.Ytiokpflciagdoaa
