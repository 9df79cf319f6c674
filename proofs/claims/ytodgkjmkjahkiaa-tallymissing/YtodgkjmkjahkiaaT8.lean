/- tally: two tallies; live. -/
import Derived.Test.YtodgkjmkjahkiaaT7
import Derived.Test.YtodgkjmkjahkiaaE1
namespace Go.Proofs.Ytodgkjmkjahkiaa
open Go.RowKit Go.Maps

theorem TalAt.maps {w : World} {p bv bc k : Nat} {T : Tv} (h : TalAt w p bv bc k T) : (∃ k t L, MpAt w bv k t L) ∧ ∃ k t L, MpAt w bc k t L := by
  obtain ⟨A, n, c, V, C, h⟩ := h
  exact ⟨⟨k, 4, V, h.mv⟩, k, 3, C, h.mc⟩
theorem TalAt.ok {w : World} {p bv bc k : Nat} {T : Tv} (h : TalAt w p bv bc k T) : okN T.ns = true := by
  obtain ⟨A, n, c, V, C, h⟩ := h
  exact h.ok
/-- A map has turned, and what is new. -/
def Mv (w w' : World) : Prop := ∃ b k t L, MpAt w b k t L ∧ w.grownBy w' (some b)
theorem Il.mv {w w' : World} {A : Option Addr} {n : Nat} {zs : List Int} (h : Il w A n zs) (m : Mv w w') : Il w' A n zs := by
  obtain ⟨b, k, t, L, hm, hg⟩ := m
  exact h.kept hm hg
theorem Bk.mv {w w' : World} {g : Nat} {t : TypeId} {cs : Array Value} (h : Bk w g t cs) (m : Mv w w') : Bk w' g t cs := by
  obtain ⟨b, k, t, L, hm, hg⟩ := m
  exact h.grown hg (hm.ne h)
/-- Two tallies, apart. -/
structure Two (w0 w : World) (p bv bc : Nat) (q cv cc : Nat) (k : Nat) (T U : Tv) : Prop where
  t : TalAt w p bv bc k T
  u : TalAt w q cv cc k U
  vv : bv ≠ cv
  vc : bv ≠ cc
  cv_ : bc ≠ cv
  cc_ : bc ≠ cc
  low : Below w0.heap.size w0 w
  b1 : w0.heap.size ≤ bv
  b2 : w0.heap.size ≤ bc
  b3 : w0.heap.size ≤ cv
  b4 : w0.heap.size ≤ cc
section
variable {w0 w w' : World} {p bv bc q cv cc k : Nat} {T U : Tv}
theorem Two.next (h : Two w0 w p bv bc q cv cc k T U) (hb : Below w.heap.size w w') : Two w0 w' p bv bc q cv cc k T U :=
  ⟨h.t.next hb, h.u.next hb, h.vv, h.vc, h.cv_, h.cc_, bmore h.low hb, h.b1, h.b2, h.b3, h.b4⟩
theorem Two.vt (h : Two w0 w p bv bc q cv cc k T U) (hk : k ≤ 900) (n : Int) (y : Bool) : Calls Try.prog 41 #[.pointer (some ⟨p, 0, none⟩), .int .i64 n, .bool y] w fun e w' => e = .returned (.int .i64 (voteE T n y)) ∧ Two w0 w' p bv bc q cv cc (k + 1) (voteT T n y) U ∧ Mv w w' := by
  refine (vote_any h.t hk n y).mono ?_
  rintro e w' ⟨rfl, h1, hg⟩
  obtain ⟨⟨_, _, _, hm⟩, _⟩ := h.t.maps
  exact ⟨rfl, ⟨h1, (h.u.other hm h.vv.symm h.vc.symm hg).few (by omega), h.vv, h.vc, h.cv_, h.cc_, h.low.grown hg h.low.size (fun j ej => by cases ej; exact h.b1), h.b1, h.b2, h.b3, h.b4⟩, _, _, _, _, hm, hg⟩
theorem Two.et (h : Two w0 w p bv bc q cv cc k T U) (hk : k ≤ 900) (n c : Int) : Calls Try.prog 42 #[.pointer (some ⟨p, 0, none⟩), .int .i64 n, .int .i64 c] w fun e w' => e = .returned (.int .i64 (exitE T n c)) ∧ Two w0 w' p bv bc q cv cc (k + 1) (exitT T n c) U ∧ Mv w w' := by
  refine (exit_any h.t hk n c).mono ?_
  rintro e w' ⟨rfl, h1, hg⟩
  obtain ⟨_, ⟨_, _, _, hm⟩⟩ := h.t.maps
  exact ⟨rfl, ⟨h1, (h.u.other hm h.cv_.symm h.cc_.symm hg).few (by omega), h.vv, h.vc, h.cv_, h.cc_, h.low.grown hg h.low.size (fun j ej => by cases ej; exact h.b2), h.b1, h.b2, h.b3, h.b4⟩, _, _, _, _, hm, hg⟩
theorem Two.swap (h : Two w0 w p bv bc q cv cc k T U) : Two w0 w q cv cc p bv bc k U T :=
  ⟨h.u, h.t, h.vv.symm, h.cv_.symm, h.vc.symm, h.cc_.symm, h.low, h.b3, h.b4, h.b1, h.b2⟩
theorem Two.vu (h : Two w0 w p bv bc q cv cc k T U) (hk : k ≤ 900) (n : Int) (y : Bool) : Calls Try.prog 41 #[.pointer (some ⟨q, 0, none⟩), .int .i64 n, .bool y] w fun e w' => e = .returned (.int .i64 (voteE U n y)) ∧ Two w0 w' p bv bc q cv cc (k + 1) T (voteT U n y) ∧ Mv w w' :=
  (h.swap.vt hk n y).mono fun _ _ ⟨h1, h2, h3⟩ => ⟨h1, h2.swap, h3⟩
theorem Two.eu (h : Two w0 w p bv bc q cv cc k T U) (hk : k ≤ 900) (n c : Int) : Calls Try.prog 42 #[.pointer (some ⟨q, 0, none⟩), .int .i64 n, .int .i64 c] w fun e w' => e = .returned (.int .i64 (exitE U n c)) ∧ Two w0 w' p bv bc q cv cc (k + 1) T (exitT U n c) ∧ Mv w w' :=
  (h.swap.et hk n c).mono fun _ _ ⟨h1, h2, h3⟩ => ⟨h1, h2.swap, h3⟩
end
def lvT : Tv := ⟨[0, 3], [0, 0], [-1, -1]⟩
def lvU : Tv := ⟨[1, 2], [0, 0], [-1, -1]⟩
def lvT1 : Tv := voteT lvT 3 true
def lvT2 : Tv := exitT lvT1 0 5
def lvT3 : Tv := voteT lvT2 0 true
def lvT4 : Tv := exitT lvT3 0 5
def lvT5 : Tv := exitT lvT4 3 9
def lvU1 : Tv := voteT lvU 1 false
def lvU2 : Tv := voteT lvU1 2 true
def lvT6 : Tv := voteT lvT5 7 true
theorem lv_facts : voteE lvT 3 true = 0 ∧ lvT1.st = 0 ∧ exitE lvT1 0 5 = 14 ∧ lvT2.miss = [0] ∧ voteE lvT2 0 true = 0 ∧ lvT3.st = 1 ∧ exitE lvT3 0 5 = 0 ∧ exitE lvT4 3 9 = 0 ∧ voteE lvU 1 false = 0 ∧ voteE lvU1 2 true = 14 ∧ voteE lvT5 7 true = 1 ∧ lvT6.st = 3 ∧ lvT6.code = 9 ∧ lvU2.st = 2 ∧ wrst [3, 9, 1] = 9 ∧ okN [0, 3] = true ∧ okN [1, 2] = true ∧ okN [] = false := by decide +kernel
theorem il2 {W : World} {g : Nat} {a b : Int} (h : Bk W g 3 #[.int .i64 a, .int .i64 b]) : Il W (some ⟨g, 0, none⟩) 2 [a, b] :=
  ⟨.inr ⟨_, rfl, h.lt, fun j hj => by
    rw [block_zero]
    rcases j with _ | _ | j
    · exact h.cell 0 _ rfl
    · exact h.cell 1 _ rfl
    · simp at hj; omega⟩, rfl, by unfold maxLen; omega⟩
set_option maxRecDepth 100000 in
set_option maxHeartbeats 8000000 in
theorem tlive_any (w : World) : Calls Try.prog 29 #[] w fun e w' => e = .returned (.bool true) ∧ Below w.heap.size w w' := by
  obtain ⟨e1, e2, e3, e4, e5, e6, e7, e8, e9, e10, e11, e12, e13, e14, e15, n1, n2, n3⟩ := lv_facts
  have E := Lib.hid (And.intro e1 (And.intro e3 (And.intro e5 (And.intro e7 (And.intro e8 (And.intro e9 (And.intro e10 e11)))))))
  have E2 := Lib.hid (And.intro e2 (And.intro e6 (And.intro e12 (And.intro e13 e14))))
  have E4 := Lib.hid e4
  have E15 := Lib.hid e15
  have N := Lib.hid (And.intro n1 (And.intro n2 n3))
  clear e1 e2 e3 e4 e5 e6 e7 e8 e9 e10 e11 e12 e13 e14 e15 n1 n2 n3
  go_enter Try.func29, Try.ntmps29
  go_wp2_with fail
  refine (tnew_any _ 2 2 [0, 3] _ (il2 (Bk.new _ _ _))).mono ?_
  rintro y w1 ⟨(⟨h, _⟩ | ⟨_, p, bv, bc, rfl, ht, hp, hv, hc⟩), hb1⟩
  · exact absurd h (by rw [N.out.1]; simp)
  have hlow := Lib.hid (bmore (below_alloc w _) hb1)
  have hT := Lib.hid ht
  have hbs : w.heap.size ≤ p ∧ w.heap.size ≤ bv ∧ w.heap.size ≤ bc := by simp at hp hv hc; omega
  obtain ⟨⟨_, _, _, m1⟩, ⟨_, _, _, m2⟩⟩ := ht.maps
  have l1 := m1.lt
  have l2 := m2.lt
  have hs1 := hlow.out.size
  clear ht hb1 hp hv hc m1 m2
  go_wp2_with fail
  refine (tnew_any _ 2 2 [1, 2] _ (il2 (Bk.new _ _ _))).mono ?_
  rintro y w2 ⟨(⟨h, _⟩ | ⟨_, q, cv, cc, rfl, hu, hq, hv, hc⟩), hb2⟩
  · exact absurd h (by rw [N.out.2.1]; simp)
  simp at hq hv hc
  have hb := bmore (below_alloc w1 _) hb2
  have st : Two w w2 p bv bc q cv cc 0 lvT lvU := ⟨hT.out.next hb, hu, by omega, by omega, by omega, by omega, bmore hlow.out hb, hbs.2.1, hbs.2.2, by omega, by omega⟩
  have S := Lib.hid st
  clear hu hq hv hc hb2 hb st hT hlow hbs l1 l2 hs1
  go_wp2_with fail
  refine (S.out.vt (by omega) 3 true).mono ?_
  rintro y w3 ⟨rfl, h, _⟩
  rw [E.out.1]
  replace S := Lib.hid (show Two w w3 p bv bc q cv cc 1 lvT1 lvU from h)
  clear h
  go_wp2_with fail
  refine (state_any S.out.t).mono ?_
  rintro y w4 ⟨rfl, h⟩
  rw [E2.out.1]
  replace S := Lib.hid (S.out.next h)
  clear h
  go_wp2_with fail
  refine (S.out.et (by omega) 0 5).mono ?_
  rintro y w5 ⟨rfl, h, _⟩
  rw [E.out.2.1]
  replace S := Lib.hid (show Two w w5 p bv bc q cv cc 2 lvT2 lvU from h)
  clear h
  go_wp2_with fail
  refine (missing_any S.out.t).mono ?_
  rintro y w6 ⟨v, rfl, row, h⟩
  rw [E4.out] at row
  obtain ⟨A1, c1, rfl⟩ := own_form row
  have I := Lib.hid (show Il w6 A1 1 [0] from ⟨ints_iv rfl row, rfl, by unfold maxLen; omega⟩)
  replace S := Lib.hid (S.out.next h)
  clear h row
  go_wp2_with fail
  refine (S.out.vt (by omega) 0 true).mono ?_
  rintro y w7 ⟨rfl, h, hmv⟩
  rw [E.out.2.2.1]
  replace S := Lib.hid (show Two w w7 p bv bc q cv cc 3 lvT3 lvU from h)
  replace I := Lib.hid (I.out.mv hmv)
  clear h hmv
  go_wp2_with fail
  refine (state_any S.out.t).mono ?_
  rintro y w8 ⟨rfl, h⟩
  rw [E2.out.2.1]
  replace S := Lib.hid (S.out.next h)
  replace I := Lib.hid (I.out.next h)
  clear h
  go_wp2_with fail
  refine (S.out.et (by omega) 0 5).mono ?_
  rintro y w9 ⟨rfl, h, hmv⟩
  rw [E.out.2.2.2.1]
  replace S := Lib.hid (show Two w w9 p bv bc q cv cc 4 lvT4 lvU from h)
  replace I := Lib.hid (I.out.mv hmv)
  clear h hmv
  go_wp2_with fail
  refine (S.out.et (by omega) 3 9).mono ?_
  rintro y w10 ⟨rfl, h, hmv⟩
  rw [E.out.2.2.2.2.1]
  replace S := Lib.hid (show Two w w10 p bv bc q cv cc 5 lvT5 lvU from h)
  replace I := Lib.hid (I.out.mv hmv)
  clear h hmv
  go_wp2_with fail
  refine (S.out.vu (by omega) 1 false).mono ?_
  rintro y w11 ⟨rfl, h, hmv⟩
  rw [E.out.2.2.2.2.2.1]
  replace S := Lib.hid (show Two w w11 p bv bc q cv cc 6 lvT5 lvU1 from h)
  replace I := Lib.hid (I.out.mv hmv)
  clear h hmv
  go_wp2_with fail
  refine (S.out.vu (by omega) 2 true).mono ?_
  rintro y w12 ⟨rfl, h, hmv⟩
  rw [E.out.2.2.2.2.2.2.1]
  replace S := Lib.hid (show Two w w12 p bv bc q cv cc 7 lvT5 lvU2 from h)
  replace I := Lib.hid (I.out.mv hmv)
  clear h hmv
  go_wp2_with fail
  refine (S.out.vt (by omega) 7 true).mono ?_
  rintro y w13 ⟨rfl, h, hmv⟩
  rw [E.out.2.2.2.2.2.2.2]
  replace S := Lib.hid (show Two w w13 p bv bc q cv cc 8 lvT6 lvU2 from h)
  replace I := Lib.hid (I.out.mv hmv)
  clear h hmv
  go_wp2_with fail
  refine (same_eq A1 (some ⟨w13.heap.size, 0, none⟩) c1 1 1 [0] _ (I.out.ints.next (below_alloc _ _)) (il1 (Bk.new _ _ _)).ints rfl (by unfold maxLen; omega)).mono ?_
  rintro y w14 ⟨rfl, h⟩
  replace S := Lib.hid (S.out.next (bmore (below_alloc _ _) h))
  clear h I
  go_wp2_with fail
  refine (state_any S.out.t).mono ?_
  rintro y w15 ⟨rfl, h⟩
  rw [E2.out.2.2.1]
  replace S := Lib.hid (S.out.next h)
  clear h
  go_wp2_with fail
  refine (code_any S.out.t).mono ?_
  rintro y w16 ⟨rfl, h⟩
  rw [E2.out.2.2.2.1]
  replace S := Lib.hid (S.out.next h)
  clear h
  go_wp2_with fail
  refine (state_any S.out.u).mono ?_
  rintro y w17 ⟨rfl, h⟩
  rw [E2.out.2.2.2.2]
  replace S := Lib.hid (S.out.next h)
  clear h
  go_wp2_with fail
  refine (worst_any _ 3 3 [3, 9, 1] _ (il3 (Bk.new _ _ _))).mono ?_
  rintro y w18 ⟨rfl, rfl⟩
  rw [E15.out]
  have LO := Lib.hid (bmore S.out.low (below_alloc w17 (.cells #[.int .i64 3, .int .i64 9, .int .i64 1] 3)))
  clear S
  go_wp2_with fail
  refine (tnew_any none 0 0 [] _ ⟨.inl rfl, rfl, Nat.zero_le _⟩).mono ?_
  rintro y w19 ⟨(⟨_, rfl⟩ | ⟨h, _⟩), hb⟩
  · go_wp2_with fail
    go_ret
    exact ⟨rfl, bmore LO.out hb⟩
  · exact absurd h (by rw [N.out.2.2]; simp)
end Go.Proofs.Ytodgkjmkjahkiaa
