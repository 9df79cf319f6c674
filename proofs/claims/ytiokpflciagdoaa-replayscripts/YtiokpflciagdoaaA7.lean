/- Use. -/
import Derived.Test.YtiokpflciagdoaaA5
import Derived.Test.YtiokpflciagdoaaA6
namespace Go.Proofs.Ytiokpflciagdoaa
open Go.RowKit Go.Maps

abbrev Pl.jb (x : Pl) : Jb := ⟨x.j, x.ok.1⟩
theorem IntsAt.grown {w w' : World} {b : Nat} {A : Option Addr} {zs : List Int} (h : IntsAt w A zs) (hg : w.grownBy w' (some b)) (hne : ∀ ad, A = some ad → ad.block ≠ b) : IntsAt w' A zs := by
  rcases h with rfl | ⟨ad, rfl, h1, h2⟩
  · exact .inl rfl
  · refine .inr ⟨ad, rfl, Nat.lt_of_lt_of_le h1 hg.size, fun j hj => ?_⟩
    have hblk := hg.block ad.block h1 (by simpa using hne ad rfl)
    have e : w'.cell? (ad.add j) = w.cell? (ad.add j) := by
      unfold World.cell?
      rw [block_add, hblk]
    rw [e]
    exact h2 j hj
set_option maxRecDepth 100000 in
set_option maxHeartbeats 1000000 in
theorem use_bad {w : World} {p bk bt : Nat} {most : Int} {L : List (Pl × Int)} {T : List (Jb × Int)} (h : CacheAt w p bk bt most L T) (x : Pl) (f u : Int) (A : Option Addr) (n cap : Nat) (c now : Int)
    (KC : ∀ V, Below w.heap.size w V → Calls Try.prog 26 #[.agg #[.int .i64 x.j, .int .i64 x.e, .int .i64 x.s, .int .i64 f, .int .i64 u, .slice A n cap, .int .i64 c]] V fun e w' => e = .returned (.int .i64 1) ∧ Below V.heap.size V w') :
    Calls Try.prog 18 #[.pointer (some ⟨p, 0, none⟩), .agg #[.int .i64 x.j, .int .i64 x.e, .int .i64 x.s, .int .i64 f, .int .i64 u, .slice A n cap, .int .i64 c], .int .i64 now] w fun e w' => e = .returned (.int .i64 1) ∧ Below w.heap.size w w' := by
  have hlk := h.ltk
  have hb0 := below_alloc w (.cells #[.int .i64 x.j, .int .i64 x.e, .int .i64 x.s, .int .i64 f, .int .i64 u, .slice A n cap, .int .i64 c] 31)
  have k0 := Bk.new w 31 #[.int .i64 x.j, .int .i64 x.e, .int .i64 x.s, .int .i64 f, .int .i64 u, .slice A n cap, .int .i64 c]
  replace h := h.next hb0
  replace KC := Lib.hid KC
  go_enter Try.func18, Try.ntmps18
  go_wp2_with fail
  refine (KC.out _ hb0).mono ?_
  rintro e w1 ⟨rfl, hb⟩
  replace hb0 := bmore hb0 hb; replace k0 := k0.next hb; replace h := h.next hb; clear hb KC
  go_wp2_with fail
  go_ret
  exact ⟨rfl, hb0⟩
set_option maxRecDepth 100000 in
set_option maxHeartbeats 1000000 in
theorem use_time {w : World} {p bk bt : Nat} {most : Int} {L : List (Pl × Int)} {T : List (Jb × Int)} (h : CacheAt w p bk bt most L T) (x : Pl) (f u : Int) (A : Option Addr) (n cap : Nat) (c now : Int)
    (KC : ∀ V, Below w.heap.size w V → Calls Try.prog 26 #[.agg #[.int .i64 x.j, .int .i64 x.e, .int .i64 x.s, .int .i64 f, .int .i64 u, .slice A n cap, .int .i64 c]] V fun e w' => e = .returned (.int .i64 0) ∧ Below V.heap.size V w') (ht : u ≤ now) :
    Calls Try.prog 18 #[.pointer (some ⟨p, 0, none⟩), .agg #[.int .i64 x.j, .int .i64 x.e, .int .i64 x.s, .int .i64 f, .int .i64 u, .slice A n cap, .int .i64 c], .int .i64 now] w fun e w' => e = .returned (.int .i64 8) ∧ Below w.heap.size w w' := by
  have t0 : decide (u ≤ now) = true := by simpa using ht
  have KI := Lib.hid (fun V => isOver_any u now V)
  rw [t0] at KI
  have hlk := h.ltk
  have hb0 := below_alloc w (.cells #[.int .i64 x.j, .int .i64 x.e, .int .i64 x.s, .int .i64 f, .int .i64 u, .slice A n cap, .int .i64 c] 31)
  have k0 := Bk.new w 31 #[.int .i64 x.j, .int .i64 x.e, .int .i64 x.s, .int .i64 f, .int .i64 u, .slice A n cap, .int .i64 c]
  replace h := h.next hb0
  replace KC := Lib.hid KC
  go_enter Try.func18, Try.ntmps18
  go_wp2_with fail
  refine (KC.out _ hb0).mono ?_
  rintro e w1 ⟨rfl, hb⟩
  replace hb0 := bmore hb0 hb; replace k0 := k0.next hb; replace h := h.next hb; clear hb KC
  have q4 := k0.cell 4 _ rfl
  go_wp2_with fail
  refine (KI.out _).mono ?_
  rintro e w1' ⟨rfl, rfl⟩
  clear KI
  go_wp2_with fail
  go_ret
  exact ⟨rfl, hb0⟩
set_option maxRecDepth 100000 in
set_option maxHeartbeats 1000000 in
theorem use_rev {w : World} {p bk bt : Nat} {most : Int} {L : List (Pl × Int)} {T : List (Jb × Int)} (h : CacheAt w p bk bt most L T) (x : Pl) (f u : Int) (A : Option Addr) (n cap : Nat) (c now : Int)
    (KC : ∀ V, Below w.heap.size w V → Calls Try.prog 26 #[.agg #[.int .i64 x.j, .int .i64 x.e, .int .i64 x.s, .int .i64 f, .int .i64 u, .slice A n cap, .int .i64 c]] V fun e w' => e = .returned (.int .i64 0) ∧ Below V.heap.size V w') (ht : ¬ u ≤ now)
    (KR : ∀ V, CacheAt V p bk bt most L T → Calls Try.prog 16 #[.pointer (some ⟨p, 0, none⟩), .agg #[.int .i64 x.j, .int .i64 x.e, .int .i64 x.s, .int .i64 f, .int .i64 u, .slice A n cap, .int .i64 c]] V fun e w' => e = .returned (.bool true) ∧ Below V.heap.size V w') :
    Calls Try.prog 18 #[.pointer (some ⟨p, 0, none⟩), .agg #[.int .i64 x.j, .int .i64 x.e, .int .i64 x.s, .int .i64 f, .int .i64 u, .slice A n cap, .int .i64 c], .int .i64 now] w fun e w' => e = .returned (.int .i64 11) ∧ Below w.heap.size w w' := by
  have t0 : decide (u ≤ now) = false := by simpa using ht
  have KI := Lib.hid (fun V => isOver_any u now V)
  rw [t0] at KI
  replace KR := Lib.hid KR
  have hlk := h.ltk
  have hb0 := below_alloc w (.cells #[.int .i64 x.j, .int .i64 x.e, .int .i64 x.s, .int .i64 f, .int .i64 u, .slice A n cap, .int .i64 c] 31)
  have k0 := Bk.new w 31 #[.int .i64 x.j, .int .i64 x.e, .int .i64 x.s, .int .i64 f, .int .i64 u, .slice A n cap, .int .i64 c]
  replace h := h.next hb0
  replace KC := Lib.hid KC
  go_enter Try.func18, Try.ntmps18
  go_wp2_with fail
  refine (KC.out _ hb0).mono ?_
  rintro e w1 ⟨rfl, hb⟩
  replace hb0 := bmore hb0 hb; replace k0 := k0.next hb; replace h := h.next hb; clear hb KC
  obtain ⟨q0, q1, q2, q3, q4, q5, q6⟩ : w1.cell? ⟨w.heap.size, 0, none⟩ = some (.int .i64 x.j) ∧ w1.cell? ⟨w.heap.size, 1, none⟩ = some (.int .i64 x.e) ∧ w1.cell? ⟨w.heap.size, 2, none⟩ = some (.int .i64 x.s) ∧ w1.cell? ⟨w.heap.size, 3, none⟩ = some (.int .i64 f) ∧ w1.cell? ⟨w.heap.size, 4, none⟩ = some (.int .i64 u) ∧ w1.cell? ⟨w.heap.size, 5, none⟩ = some (.slice A n cap) ∧ w1.cell? ⟨w.heap.size, 6, none⟩ = some (.int .i64 c) := ⟨k0.cell 0 _ rfl, k0.cell 1 _ rfl, k0.cell 2 _ rfl, k0.cell 3 _ rfl, k0.cell 4 _ rfl, k0.cell 5 _ rfl, k0.cell 6 _ rfl⟩
  go_wp2_with fail
  refine (KI.out _).mono ?_
  rintro e w1' ⟨rfl, rfl⟩
  clear KI
  go_wp2_with fail
  refine (KR.out _ h).mono ?_
  rintro e w2 ⟨rfl, hb⟩
  replace hb0 := bmore hb0 hb; replace k0 := k0.next hb; replace h := h.next hb; clear hb KR q0 q1 q2 q3 q4 q5 q6
  go_wp2_with fail
  go_ret
  exact ⟨rfl, hb0⟩
set_option maxRecDepth 100000 in
set_option maxHeartbeats 1000000 in
theorem use_replay {w : World} {p bk bt : Nat} {most : Int} {L : List (Pl × Int)} {T : List (Jb × Int)} (h : CacheAt w p bk bt most L T) (x : Pl) (f u : Int) (A : Option Addr) (n cap : Nat) (c now : Int)
    (KC : ∀ V, Below w.heap.size w V → Calls Try.prog 26 #[.agg #[.int .i64 x.j, .int .i64 x.e, .int .i64 x.s, .int .i64 f, .int .i64 u, .slice A n cap, .int .i64 c]] V fun e w' => e = .returned (.int .i64 0) ∧ Below V.heap.size V w') (ht : ¬ u ≤ now)
    (KR : ∀ V, CacheAt V p bk bt most L T → Calls Try.prog 16 #[.pointer (some ⟨p, 0, none⟩), .agg #[.int .i64 x.j, .int .i64 x.e, .int .i64 x.s, .int .i64 f, .int .i64 u, .slice A n cap, .int .i64 c]] V fun e w' => e = .returned (.bool false) ∧ Below V.heap.size V w') (hh : hasL (keep now L) x = true) :
    Calls Try.prog 18 #[.pointer (some ⟨p, 0, none⟩), .agg #[.int .i64 x.j, .int .i64 x.e, .int .i64 x.s, .int .i64 f, .int .i64 u, .slice A n cap, .int .i64 c], .int .i64 now] w fun e w' => e = .returned (.int .i64 10) ∧ CacheAt w' p bk bt most (keep now L) T ∧ w.grownBy w' (some bk) := by
  have t0 : decide (u ≤ now) = false := by simpa using ht
  have KI := Lib.hid (fun V => isOver_any u now V)
  rw [t0] at KI
  replace KR := Lib.hid KR
  have HL := Lib.hid (fun V (h : CacheAt V p bk bt most (keep now L) T) => h.look x)
  rw [hh] at HL
  clear hh
  have hlk := h.ltk
  have hb0 := below_alloc w (.cells #[.int .i64 x.j, .int .i64 x.e, .int .i64 x.s, .int .i64 f, .int .i64 u, .slice A n cap, .int .i64 c] 31)
  have k0 := Bk.new w 31 #[.int .i64 x.j, .int .i64 x.e, .int .i64 x.s, .int .i64 f, .int .i64 u, .slice A n cap, .int .i64 c]
  replace h := h.next hb0
  replace KC := Lib.hid KC
  go_enter Try.func18, Try.ntmps18
  go_wp2_with fail
  refine (KC.out _ hb0).mono ?_
  rintro e w1 ⟨rfl, hb⟩
  replace hb0 := bmore hb0 hb; replace k0 := k0.next hb; replace h := h.next hb; clear hb KC
  obtain ⟨q0, q1, q2, q3, q4, q5, q6⟩ : w1.cell? ⟨w.heap.size, 0, none⟩ = some (.int .i64 x.j) ∧ w1.cell? ⟨w.heap.size, 1, none⟩ = some (.int .i64 x.e) ∧ w1.cell? ⟨w.heap.size, 2, none⟩ = some (.int .i64 x.s) ∧ w1.cell? ⟨w.heap.size, 3, none⟩ = some (.int .i64 f) ∧ w1.cell? ⟨w.heap.size, 4, none⟩ = some (.int .i64 u) ∧ w1.cell? ⟨w.heap.size, 5, none⟩ = some (.slice A n cap) ∧ w1.cell? ⟨w.heap.size, 6, none⟩ = some (.int .i64 c) := ⟨k0.cell 0 _ rfl, k0.cell 1 _ rfl, k0.cell 2 _ rfl, k0.cell 3 _ rfl, k0.cell 4 _ rfl, k0.cell 5 _ rfl, k0.cell 6 _ rfl⟩
  go_wp2_with fail
  refine (KI.out _).mono ?_
  rintro e w1' ⟨rfl, rfl⟩
  clear KI
  go_wp2_with fail
  refine (KR.out _ h).mono ?_
  rintro e w2 ⟨rfl, hb⟩
  replace hb0 := bmore hb0 hb; replace k0 := k0.next hb; replace h := h.next hb; clear hb KR q0 q1 q2 q3 q4 q5 q6
  have hx0 : w.heap.size ≠ bk := Nat.ne_of_gt hlk
  go_wp2_with fail
  refine (drop_any h now).mono ?_
  rintro e w3 ⟨rfl, h3, hg3⟩
  have hgw : w.grownBy w3 (some bk) := ((only_of_below hb0).but _).trans hg3
  replace k0 := k0.grown hg3 hx0
  clear h hg3 hb0
  have q0 := k0.cell 0 _ rfl
  have q1 := k0.cell 1 _ rfl
  have q2 := k0.cell 2 _ rfl
  have q3 := k0.cell 3 _ rfl
  have q4 := k0.cell 4 _ rfl
  have q5 := k0.cell 5 _ rfl
  have q6 := k0.cell 6 _ rfl
  go_wp2_with fail
  refine (placeOf_any _ _ _ _ _ _ _ _ _ _).mono ?_
  rintro e w4 ⟨rfl, hb⟩
  clear q0 q1 q2 q3 q4 q5 q6
  replace k0 := k0.next hb; replace h3 := h3.next hb; replace hgw := hgw.trans ((only_of_below hb).but _); clear hb
  have hx := below_alloc w4 (.cells #[.int .i64 x.j, .int .i64 x.e, .int .i64 x.s] 60)
  have j0 := Bk.new w4 60 #[.int .i64 x.j, .int .i64 x.e, .int .i64 x.s]
  replace k0 := k0.next hx; replace h3 := h3.next hx; replace hgw := hgw.trans ((only_of_below hx).but _); clear hx
  go_wp2_with fail
  refine region_still (by kernel_rfl) (by kernel_rfl) (fun w5 hw => ?_)
  replace h3 := h3.hid hw; replace k0 := k0.hid hw; replace j0 := j0.hid hw
  replace hgw : w.grownBy w5 (some bk) := by rw [hw.out]; exact ⟨hgw.os, hgw.tape, hgw.output, hgw.size, hgw.block⟩
  clear hw
  have hl := HL.out _ h3
  obtain ⟨c0, c1, c2⟩ := h3.cells
  have p0 := j0.cell 0 _ rfl
  have p1 := j0.cell 1 _ rfl
  have p2 := j0.cell 2 _ rfl
  repeat still_step
  refine wpStill_nil ?_
  go_wp2_with fail
  go_ret
  exact ⟨rfl, h3, hgw⟩
set_option maxRecDepth 100000 in
set_option maxHeartbeats 1000000 in
theorem use_full {w : World} {p bk bt : Nat} {most : Int} {L : List (Pl × Int)} {T : List (Jb × Int)} (h : CacheAt w p bk bt most L T) (x : Pl) (f u : Int) (A : Option Addr) (n cap : Nat) (c now : Int)
    (KC : ∀ V, Below w.heap.size w V → Calls Try.prog 26 #[.agg #[.int .i64 x.j, .int .i64 x.e, .int .i64 x.s, .int .i64 f, .int .i64 u, .slice A n cap, .int .i64 c]] V fun e w' => e = .returned (.int .i64 0) ∧ Below V.heap.size V w') (ht : ¬ u ≤ now)
    (KR : ∀ V, CacheAt V p bk bt most L T → Calls Try.prog 16 #[.pointer (some ⟨p, 0, none⟩), .agg #[.int .i64 x.j, .int .i64 x.e, .int .i64 x.s, .int .i64 f, .int .i64 u, .slice A n cap, .int .i64 c]] V fun e w' => e = .returned (.bool false) ∧ Below V.heap.size V w') (hh : hasL (keep now L) x = false) (hf : most ≤ (keep now L).length) :
    Calls Try.prog 18 #[.pointer (some ⟨p, 0, none⟩), .agg #[.int .i64 x.j, .int .i64 x.e, .int .i64 x.s, .int .i64 f, .int .i64 u, .slice A n cap, .int .i64 c], .int .i64 now] w fun e w' => e = .returned (.int .i64 6) ∧ CacheAt w' p bk bt most (keep now L) T ∧ w.grownBy w' (some bk) := by
  have t0 : decide (u ≤ now) = false := by simpa using ht
  have KI := Lib.hid (fun V => isOver_any u now V)
  rw [t0] at KI
  replace KR := Lib.hid KR
  have HL := Lib.hid (fun V (h : CacheAt V p bk bt most (keep now L) T) => h.look x)
  rw [hh] at HL
  clear hh
  have hlk := h.ltk
  have hb0 := below_alloc w (.cells #[.int .i64 x.j, .int .i64 x.e, .int .i64 x.s, .int .i64 f, .int .i64 u, .slice A n cap, .int .i64 c] 31)
  have k0 := Bk.new w 31 #[.int .i64 x.j, .int .i64 x.e, .int .i64 x.s, .int .i64 f, .int .i64 u, .slice A n cap, .int .i64 c]
  replace h := h.next hb0
  replace KC := Lib.hid KC
  go_enter Try.func18, Try.ntmps18
  go_wp2_with fail
  refine (KC.out _ hb0).mono ?_
  rintro e w1 ⟨rfl, hb⟩
  replace hb0 := bmore hb0 hb; replace k0 := k0.next hb; replace h := h.next hb; clear hb KC
  obtain ⟨q0, q1, q2, q3, q4, q5, q6⟩ : w1.cell? ⟨w.heap.size, 0, none⟩ = some (.int .i64 x.j) ∧ w1.cell? ⟨w.heap.size, 1, none⟩ = some (.int .i64 x.e) ∧ w1.cell? ⟨w.heap.size, 2, none⟩ = some (.int .i64 x.s) ∧ w1.cell? ⟨w.heap.size, 3, none⟩ = some (.int .i64 f) ∧ w1.cell? ⟨w.heap.size, 4, none⟩ = some (.int .i64 u) ∧ w1.cell? ⟨w.heap.size, 5, none⟩ = some (.slice A n cap) ∧ w1.cell? ⟨w.heap.size, 6, none⟩ = some (.int .i64 c) := ⟨k0.cell 0 _ rfl, k0.cell 1 _ rfl, k0.cell 2 _ rfl, k0.cell 3 _ rfl, k0.cell 4 _ rfl, k0.cell 5 _ rfl, k0.cell 6 _ rfl⟩
  go_wp2_with fail
  refine (KI.out _).mono ?_
  rintro e w1' ⟨rfl, rfl⟩
  clear KI
  go_wp2_with fail
  refine (KR.out _ h).mono ?_
  rintro e w2 ⟨rfl, hb⟩
  replace hb0 := bmore hb0 hb; replace k0 := k0.next hb; replace h := h.next hb; clear hb KR q0 q1 q2 q3 q4 q5 q6
  have hx0 : w.heap.size ≠ bk := Nat.ne_of_gt hlk
  go_wp2_with fail
  refine (drop_any h now).mono ?_
  rintro e w3 ⟨rfl, h3, hg3⟩
  have hgw : w.grownBy w3 (some bk) := ((only_of_below hb0).but _).trans hg3
  replace k0 := k0.grown hg3 hx0
  clear h hg3 hb0
  have q0 := k0.cell 0 _ rfl
  have q1 := k0.cell 1 _ rfl
  have q2 := k0.cell 2 _ rfl
  have q3 := k0.cell 3 _ rfl
  have q4 := k0.cell 4 _ rfl
  have q5 := k0.cell 5 _ rfl
  have q6 := k0.cell 6 _ rfl
  go_wp2_with fail
  refine (placeOf_any _ _ _ _ _ _ _ _ _ _).mono ?_
  rintro e w4 ⟨rfl, hb⟩
  clear q0 q1 q2 q3 q4 q5 q6
  replace k0 := k0.next hb; replace h3 := h3.next hb; replace hgw := hgw.trans ((only_of_below hb).but _); clear hb
  have hx := below_alloc w4 (.cells #[.int .i64 x.j, .int .i64 x.e, .int .i64 x.s] 60)
  have j0 := Bk.new w4 60 #[.int .i64 x.j, .int .i64 x.e, .int .i64 x.s]
  replace k0 := k0.next hx; replace h3 := h3.next hx; replace hgw := hgw.trans ((only_of_below hx).but _); clear hx
  go_wp2_with fail
  refine region_still (by kernel_rfl) (by kernel_rfl) (fun w5 hw => ?_)
  replace h3 := h3.hid hw; replace k0 := k0.hid hw; replace j0 := j0.hid hw
  replace hgw : w.grownBy w5 (some bk) := by rw [hw.out]; exact ⟨hgw.os, hgw.tape, hgw.output, hgw.size, hgw.block⟩
  clear hw
  have hl := HL.out _ h3
  obtain ⟨c0, c1, c2⟩ := h3.cells
  have p0 := j0.cell 0 _ rfl
  have p1 := j0.cell 1 _ rfl
  have p2 := j0.cell 2 _ rfl
  repeat still_step
  refine wpStill_nil ?_
  go_wp2_with fail
  refine region_still (by kernel_rfl) (by kernel_rfl) (fun w6 hw => ?_)
  replace h3 := h3.hid hw; replace k0 := k0.hid hw; replace j0 := j0.hid hw
  replace hgw : w.grownBy w6 (some bk) := by rw [hw.out]; exact ⟨hgw.os, hgw.tape, hgw.output, hgw.size, hgw.block⟩
  clear hw hl c0 c1 c2 p0 p1 p2
  have hl := h3.len
  obtain ⟨c0, c1, c2⟩ := h3.cells
  repeat still_step
  refine wpStill_nil ?_
  go_wp2_with fail
  go_ret
  exact ⟨rfl, h3, hgw⟩
set_option maxRecDepth 100000 in
set_option maxHeartbeats 1000000 in
theorem use_ok {w : World} {p bk bt : Nat} {most : Int} {L : List (Pl × Int)} {T : List (Jb × Int)} (h : CacheAt w p bk bt most L T) (x : Pl) (f u : Int) (A : Option Addr) (n cap : Nat) (c now : Int)
    (KC : ∀ V, Below w.heap.size w V → Calls Try.prog 26 #[.agg #[.int .i64 x.j, .int .i64 x.e, .int .i64 x.s, .int .i64 f, .int .i64 u, .slice A n cap, .int .i64 c]] V fun e w' => e = .returned (.int .i64 0) ∧ Below V.heap.size V w') (ht : ¬ u ≤ now)
    (KR : ∀ V, CacheAt V p bk bt most L T → Calls Try.prog 16 #[.pointer (some ⟨p, 0, none⟩), .agg #[.int .i64 x.j, .int .i64 x.e, .int .i64 x.s, .int .i64 f, .int .i64 u, .slice A n cap, .int .i64 c]] V fun e w' => e = .returned (.bool false) ∧ Below V.heap.size V w') (hh : hasL (keep now L) x = false) (hf : ¬ most ≤ (keep now L).length) (hm : (keep now L).length ≤ 1000) (hwu : wf u) :
    Calls Try.prog 18 #[.pointer (some ⟨p, 0, none⟩), .agg #[.int .i64 x.j, .int .i64 x.e, .int .i64 x.s, .int .i64 f, .int .i64 u, .slice A n cap, .int .i64 c], .int .i64 now] w fun e w' => e = .returned (.int .i64 0) ∧ CacheAt w' p bk bt most (keep now L ++ [(x, u)]) T ∧ w.grownBy w' (some bk) := by
  have t0 : decide (u ≤ now) = false := by simpa using ht
  have KI := Lib.hid (fun V => isOver_any u now V)
  rw [t0] at KI
  replace KR := Lib.hid KR
  have HL := Lib.hid (fun V (h : CacheAt V p bk bt most (keep now L) T) => h.look x)
  have HH := Lib.hid hh
  rw [hh] at HL
  clear hh
  have hlk := h.ltk
  have hb0 := below_alloc w (.cells #[.int .i64 x.j, .int .i64 x.e, .int .i64 x.s, .int .i64 f, .int .i64 u, .slice A n cap, .int .i64 c] 31)
  have k0 := Bk.new w 31 #[.int .i64 x.j, .int .i64 x.e, .int .i64 x.s, .int .i64 f, .int .i64 u, .slice A n cap, .int .i64 c]
  replace h := h.next hb0
  replace KC := Lib.hid KC
  go_enter Try.func18, Try.ntmps18
  go_wp2_with fail
  refine (KC.out _ hb0).mono ?_
  rintro e w1 ⟨rfl, hb⟩
  replace hb0 := bmore hb0 hb; replace k0 := k0.next hb; replace h := h.next hb; clear hb KC
  obtain ⟨q0, q1, q2, q3, q4, q5, q6⟩ : w1.cell? ⟨w.heap.size, 0, none⟩ = some (.int .i64 x.j) ∧ w1.cell? ⟨w.heap.size, 1, none⟩ = some (.int .i64 x.e) ∧ w1.cell? ⟨w.heap.size, 2, none⟩ = some (.int .i64 x.s) ∧ w1.cell? ⟨w.heap.size, 3, none⟩ = some (.int .i64 f) ∧ w1.cell? ⟨w.heap.size, 4, none⟩ = some (.int .i64 u) ∧ w1.cell? ⟨w.heap.size, 5, none⟩ = some (.slice A n cap) ∧ w1.cell? ⟨w.heap.size, 6, none⟩ = some (.int .i64 c) := ⟨k0.cell 0 _ rfl, k0.cell 1 _ rfl, k0.cell 2 _ rfl, k0.cell 3 _ rfl, k0.cell 4 _ rfl, k0.cell 5 _ rfl, k0.cell 6 _ rfl⟩
  go_wp2_with fail
  refine (KI.out _).mono ?_
  rintro e w1' ⟨rfl, rfl⟩
  clear KI
  go_wp2_with fail
  refine (KR.out _ h).mono ?_
  rintro e w2 ⟨rfl, hb⟩
  replace hb0 := bmore hb0 hb; replace k0 := k0.next hb; replace h := h.next hb; clear hb KR q0 q1 q2 q3 q4 q5 q6
  have hx0 : w.heap.size ≠ bk := Nat.ne_of_gt hlk
  go_wp2_with fail
  refine (drop_any h now).mono ?_
  rintro e w3 ⟨rfl, h3, hg3⟩
  have hgw : w.grownBy w3 (some bk) := ((only_of_below hb0).but _).trans hg3
  replace k0 := k0.grown hg3 hx0
  clear h hg3 hb0
  have q0 := k0.cell 0 _ rfl
  have q1 := k0.cell 1 _ rfl
  have q2 := k0.cell 2 _ rfl
  have q3 := k0.cell 3 _ rfl
  have q4 := k0.cell 4 _ rfl
  have q5 := k0.cell 5 _ rfl
  have q6 := k0.cell 6 _ rfl
  go_wp2_with fail
  refine (placeOf_any _ _ _ _ _ _ _ _ _ _).mono ?_
  rintro e w4 ⟨rfl, hb⟩
  clear q0 q1 q2 q3 q4 q5 q6
  replace k0 := k0.next hb; replace h3 := h3.next hb; replace hgw := hgw.trans ((only_of_below hb).but _); clear hb
  have hx := below_alloc w4 (.cells #[.int .i64 x.j, .int .i64 x.e, .int .i64 x.s] 60)
  have j0 := Bk.new w4 60 #[.int .i64 x.j, .int .i64 x.e, .int .i64 x.s]
  replace k0 := k0.next hx; replace h3 := h3.next hx; replace hgw := hgw.trans ((only_of_below hx).but _); clear hx
  go_wp2_with fail
  refine region_still (by kernel_rfl) (by kernel_rfl) (fun w5 hw => ?_)
  replace h3 := h3.hid hw; replace k0 := k0.hid hw; replace j0 := j0.hid hw
  replace hgw : w.grownBy w5 (some bk) := by rw [hw.out]; exact ⟨hgw.os, hgw.tape, hgw.output, hgw.size, hgw.block⟩
  clear hw
  have hl := HL.out _ h3
  obtain ⟨c0, c1, c2⟩ := h3.cells
  have p0 := j0.cell 0 _ rfl
  have p1 := j0.cell 1 _ rfl
  have p2 := j0.cell 2 _ rfl
  repeat still_step
  refine wpStill_nil ?_
  go_wp2_with fail
  refine region_still (by kernel_rfl) (by kernel_rfl) (fun w6 hw => ?_)
  replace h3 := h3.hid hw; replace k0 := k0.hid hw; replace j0 := j0.hid hw
  replace hgw : w.grownBy w6 (some bk) := by rw [hw.out]; exact ⟨hgw.os, hgw.tape, hgw.output, hgw.size, hgw.block⟩
  clear hw hl c0 c1 c2 p0 p1 p2
  have hl := h3.len
  obtain ⟨c0, c1, c2⟩ := h3.cells
  repeat still_step
  refine wpStill_nil ?_
  go_wp2_with fail
  refine region_tail 7 (by kernel_rfl) (by kernel_rfl) (fun w7 hw => ?_)
  replace h3 := h3.hid hw; replace k0 := k0.hid hw; replace j0 := j0.hid hw
  replace hgw : w.grownBy w7 (some bk) := by rw [hw.out]; exact ⟨hgw.os, hgw.tape, hgw.output, hgw.size, hgw.block⟩
  clear hw hl c0 c1 c2
  obtain ⟨c0, c1, c2⟩ := h3.cells
  have p0 := j0.cell 0 _ rfl
  have p1 := j0.cell 1 _ rfl
  have p2 := j0.cell 2 _ rfl
  have q4 := k0.cell 4 _ rfl
  obtain ⟨D, ho, hT⟩ := h3.kept
  have HT := Lib.hid hT
  clear hT
  simp only [List.take_succ_cons, List.take_zero, List.drop_succ_cons, List.drop_zero]
  repeat still_step
  refine wpStill_nil ?_
  go_wp2_with (at_mapUpdate; refine wpList_mapUpdate_own _ rfl _ _ _ 54 rfl 60 3 law60 Try.underlying54 _ bk _ D rfl ho (by unfold maxLen; omega) _ _ _ rfl rfl (key_mk x) (.lit (.int .i64 u)) [] (plainElem_int Try.underlying3 hwu) ?_; intro w8 ho8 hg8)
  go_ret
  have hT8 := HT.out.put keyFnP u HH.out
  obtain ⟨E, t1, t2⟩ := h3.tak
  exact ⟨rfl, ⟨h3.blk.grown hg8 h3.nek, h3.ne, ⟨_, tight ho8 hT8, hT8⟩, ⟨E, t1.kept hg8 (by simpa using h3.ne.symm), t2⟩⟩, hgw.trans hg8⟩
end Go.Proofs.Ytiokpflciagdoaa
