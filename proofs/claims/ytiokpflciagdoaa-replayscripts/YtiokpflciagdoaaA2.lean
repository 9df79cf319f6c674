/- cred: firstThatHolds, formRules, Check. -/
import Derived.Test.YtiokpflciagdoaaA1
namespace Go.Proofs.Ytiokpflciagdoaa
open Go.RowKit

theorem run_store_fn (P : Program) (w : World) (a : Addr) (m : Mode) (f : Fn) (b c : Array Value) : (store a (.func f b c) m).run P w = stored P w a (.func f b c) m := run_store P w a _ m rfl
attribute [local go_sem] run_store_fn

def oneIf (b : Bool) : Int := if b then 1 else 0
/-- One of the first k. -/
def anyB (r : Nat → Bool) (k : Nat) : Bool := (List.range k).any r
theorem anyB_succ (r : Nat → Bool) (k : Nat) : anyB r (k + 1) = (anyB r k || r k) := by simp [anyB, List.range_succ]
theorem anyB_hit {r : Nat → Bool} {k n : Nat} (h : k < n) (hr : r k = true) : anyB r n = true := List.any_eq_true.2 ⟨k, List.mem_range.2 h, hr⟩

set_option maxRecDepth 100000 in
set_option maxHeartbeats 1000000 in
theorem first_any (g : Nat) (f : Nat → Nat) (caps : Nat → Array Value) (r : Nat → Bool) (w : World) (hg : g < w.heap.size) (hf : ∀ i, i < 8 → f i = 37 ∨ f i = 35)
    (hc : ∀ i, i < 8 → w.cell? ⟨g, i * 2, none⟩ = some (.int .i64 1) ∧ w.cell? ⟨g, i * 2 + 1, none⟩ = some (.func (.func (f i)) #[] (caps i)))
    (K : ∀ i, i < 8 → (∀ j, j < i → r j = false) → ∀ V, Below w.heap.size w V → Calls Try.prog (f i) (caps i) V fun x w' => x = .returned (.bool (r i)) ∧ Below V.heap.size V w') :
    Calls Try.prog 30 #[.slice (some ⟨g, 0, none⟩) 8 8] w fun x w' => x = .returned (.int .i64 (oneIf (anyB r 8))) ∧ Below w.heap.size w w' := by
  replace K := Lib.hid K
  replace hc := Lib.hid hc
  go_enter Try.func30, Try.ntmps30
  go_wp2_with fail
  go_loopw [7] (fun i wr => ∃ k : Nat, k ≤ 8 ∧ i = .int .i64 k ∧ Hid (∀ j, j < k → r j = false) ∧ Below w.heap.size w wr) (fun i _ => 8 - (intOf i).toNat)
  case atStart => exact ⟨0, by omega, rfl, Lib.hid (fun j hj => by omega), Below.refl _ _⟩
  case round =>
    obtain ⟨k, hk, rfl, HR, hb⟩ := hrel
    by_cases hlt : k < 8
    · obtain ⟨c0, c1⟩ := hc.out k hlt
      replace c0 := (hb.cell (p := ⟨g, k * 2, none⟩) hg).trans c0
      replace c1 := (hb.cell (p := ⟨g, k * 2 + 1, none⟩) hg).trans c1
      have KK := Lib.hid (K.out k hlt HR.out)
      have hf' := hf k hlt
      generalize f k = fk at *
      generalize caps k = ck at *
      obtain ⟨rk, hrk⟩ : ∃ rk, rk = r k := ⟨_, rfl⟩
      rw [← hrk] at KK
      have HRK := Lib.hid hrk
      clear hrk
      have hx := hb.alloc hb.size (.cells #[.int .i64 1, .func (.func fk) #[] ck] 73)
      have j0 := Bk.new wr 73 #[.int .i64 1, .func (.func fk) #[] ck]
      clear hf
      rcases hf' with rfl | rfl
      all_goals
        go_wp2_with fail
        refine (KK.out _ hx).mono ?_
        rintro x w1 ⟨rfl, hb1⟩
        replace hx := hx.trans (hb1.mono hx.size)
        replace j0 := j0.next hb1
        have c2 := j0.cell 0 _ rfl
        clear hb1
        cases rk
        · go_wp2_with fail
          go_roundw
          case rel => exact ⟨k + 1, by omega, by go_num, Lib.hid (fun j hj => by
            rcases Nat.lt_succ_iff_lt_or_eq.1 hj with h | h
            · exact HR.out j h
            · rw [h]; exact HRK.out.symm), hx⟩
          case measure => simp [intOf]; omega
        · go_wp2_with fail
          go_ret
          have hh : anyB r 8 = true := anyB_hit hlt HRK.out.symm
          exact ⟨by rw [hh]; rfl, hx⟩
    · go_wp2_with fail
      go_ret
      have hh : anyB r 8 = false := by
        unfold anyB
        rw [List.any_eq_false]
        intro j hj
        rw [HR.out j (by have := List.mem_range.1 hj; omega)]
        simp
      exact ⟨by rw [hh]; rfl, hb⟩
end Go.Proofs.Ytiokpflciagdoaa
