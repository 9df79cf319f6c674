/- The law CoresTell, walked. -/
import Derived.Test.YteggadafcedojaaW19
import Derived.Test.YteggadafcedojaaL1
namespace Go.Proofs.Yteggadafcedojaa
open Go.RowKit Go.Shelf

attribute [local go_sem] eq33 eq40

/-- A slice of these numbers, and a code. -/
def Told (w : World) (xs : List Nat) (n : Nat) (er : Int) (e : Ending) (w' : World) : Prop :=
  ∃ A cap, e = .returned (.tuple #[.slice A n cap, .int .i64 er]) ∧ NatsAt w' w'.heap.size A xs ∧ Below w.heap.size w w'
theorem natsIn {w : World} {A : Option Addr} {xs : List Nat} (h : NatsAt w w.heap.size A xs) (n : In w.heap.size w) : NatsAt n.val n.val.heap.size A xs := (h.below n.ok).more n.ok.size

set_option maxRecDepth 100000 in
set_option maxHeartbeats 2000000 in
theorem coresTell_by (s p d c er er2 x : Int) (xs : List Nat) (n m0 m1 m2 m3 : Nat) (w : World) (hn : xs.length = n) (hl : n ≤ 65536)
    (O1 : ∀ W, Calls Try.prog 8 #[.agg #[.int .i64 s, .int .i64 p], .int .i64 d] W (Told W xs n er)) (O2 : ∀ W, Calls Try.prog 10 #[.agg #[.int .i64 s, .int .i64 p], .int .i64 d] W (Told W xs n er))
    (C1 : ∀ W, Calls Try.prog 13 #[.agg #[.int .i64 s, .int .i64 p]] W fun e w' => e = .returned (.int .i64 er2) ∧ Below W.heap.size W w') (C2 : ∀ W, Calls Try.prog 14 #[.agg #[.int .i64 s, .int .i64 p]] W fun e w' => e = .returned (.int .i64 er2) ∧ Below W.heap.size W w')
    (S1 : ∀ W, Calls Try.prog 15 #[.agg #[.int .i64 s, .int .i64 p], .int .i64 c] W fun e w' => e = .returned (.int .i64 x) ∧ Below W.heap.size W w') (S2 : ∀ W, Calls Try.prog 16 #[.agg #[.int .i64 s, .int .i64 p], .int .i64 c] W fun e w' => e = .returned (.int .i64 x) ∧ Below W.heap.size W w')
    (A1 : ∀ W, Calls Try.prog 11 #[.agg #[.int .i64 s, .int .i64 p]] W fun e w' => e = .returned (.agg #[.int .u64 m0, .int .u64 m1, .int .u64 m2, .int .u64 m3]) ∧ Below W.heap.size W w') (A2 : ∀ W, Calls Try.prog 17 #[.agg #[.int .i64 s, .int .i64 p]] W fun e w' => e = .returned (.agg #[.int .u64 m0, .int .u64 m1, .int .u64 m2, .int .u64 m3]) ∧ Below W.heap.size W w') :
    Calls Try.prog 3 #[.agg #[.int .i64 s, .int .i64 p], .int .i64 d, .int .i64 c] w fun e w' => e = .returned (.bool true) ∧ Below w.heap.size w w' := by
  have HO1 := Lib.hid O1
  have HO2 := Lib.hid O2
  have HC1 := Lib.hid C1
  have HC2 := Lib.hid C2
  have HS1 := Lib.hid S1
  have HS2 := Lib.hid S2
  have HA1 := Lib.hid A1
  have HA2 := Lib.hid A2
  have HN := Lib.hid hn
  clear O1 O2 C1 C2 S1 S2 A1 A2 hn
  have hb0 := (Below.refl _ w).alloc (Nat.le_refl _) (.cells #[.int .i64 s, .int .i64 p] 23)
  have k0 := Bk.new w 23 #[.int .i64 s, .int .i64 p]
  go_enter Try.func3, Try.ntmps3
  go_wp2_with fail
  refine (own_any s p _).mono ?_
  rintro e w1 ⟨rfl, hb1⟩
  replace k0 := k0.next hb1
  replace hb0 := bmore hb0 hb1
  clear hb1
  go_wp2_with fail
  refine (HO1.out _).mono ?_
  rintro e w2 ⟨A, ca, rfl, hA, hb2⟩
  replace k0 := k0.next hb2
  replace hb0 := bmore hb0 hb2
  clear hb2
  have c0 := k0.cell 0 _ rfl
  have c1 := k0.cell 1 _ rfl
  go_wp2_with fail
  refine (HO2.out _).mono ?_
  rintro e w3 ⟨B, cb, rfl, hB, hb3⟩
  replace hA := (hA.below hb3).more hb3.size
  replace k0 := k0.next hb3
  replace hb0 := bmore hb0 hb3
  clear hb3 c0 c1
  have c0 := k0.cell 0 _ rfl
  have c1 := k0.cell 1 _ rfl
  go_wp2_with fail
  refine (own_any s p _).mono ?_
  rintro e w4 ⟨rfl, hb4⟩
  replace hA := (hA.below hb4).more hb4.size
  replace hB := (hB.below hb4).more hb4.size
  replace k0 := k0.next hb4
  replace hb0 := bmore hb0 hb4
  clear hb4 c0 c1
  go_wp2_with fail
  refine (HA1.out _).mono ?_
  rintro e w5 ⟨rfl, hb5⟩
  replace hA := (hA.below hb5).more hb5.size
  replace hB := (hB.below hb5).more hb5.size
  replace k0 := k0.next hb5
  replace hb0 := bmore hb0 hb5
  clear hb5
  have hx : Below w5.heap.size w5 (w5.alloc (.cells #[.int .u64 m0, .int .u64 m1, .int .u64 m2, .int .u64 m3] 33)) := (Below.refl _ _).alloc (Nat.le_refl _) _
  replace hA := (hA.below hx).more hx.size
  replace hB := (hB.below hx).more hx.size
  replace k0 := k0.next hx
  replace hb0 := bmore hb0 hx
  have km := Bk.new w5 33 #[.int .u64 m0, .int .u64 m1, .int .u64 m2, .int .u64 m3]
  clear hx
  go_wp2_with fail
  generalize w5.alloc (.cells #[.int .u64 m0, .int .u64 m1, .int .u64 m2, .int .u64 m3] 33) = W at *
  have SM := Lib.hid (fun i : In W.heap.size W => same_eq A B ca cb n xs i.val (natsIn hA i) (natsIn hB i) HN.out hl)
  have K0 := In.cell (B := W.heap.size) k0.lt (k0.cell 0 _ rfl)
  have K1 := In.cell (B := W.heap.size) k0.lt (k0.cell 1 _ rfl)
  have M0 := In.cell (B := W.heap.size) km.lt (km.cell 0 _ rfl)
  have M1 := In.cell (B := W.heap.size) km.lt (km.cell 1 _ rfl)
  have M2 := In.cell (B := W.heap.size) km.lt (km.cell 2 _ rfl)
  have M3 := In.cell (B := W.heap.size) km.lt (km.cell 3 _ rfl)
  have hIn := inNonempty W.heap.size W
  refine region_in W.heap.size (by kernel_rfl) (by kernel_rfl) ?_
  repeat (go_big_quiet_step ((first | (go_at_call 9; exact Calls.in_of (Nat.le_refl _) (own_any _ _ _)) | (go_at_call 12; exact Calls.in_of (Nat.le_refl _) (SM.out _)) | (go_at_call 13; exact Calls.in_of (Nat.le_refl _) (HC1.out _)) | (go_at_call 14; exact Calls.in_of (Nat.le_refl _) (HC2.out _)) | (go_at_call 15; exact Calls.in_of (Nat.le_refl _) (HS1.out _)) | (go_at_call 16; exact Calls.in_of (Nat.le_refl _) (HS2.out _)) | (go_at_call 17; exact Calls.in_of (Nat.le_refl _) (HA2.out _)) | (go_at_call 18; exact Calls.in_of (Nat.le_refl _) (live_any _)))))
  refine wpQuiet_nil ?_
  intro w6 hb6
  clear K0 K1 M0 M1 M2 M3
  go_wp2_with fail
  go_ret
  exact ⟨rfl, hb0.trans (hb6.mono hb0.size)⟩
end Go.Proofs.Yteggadafcedojaa
