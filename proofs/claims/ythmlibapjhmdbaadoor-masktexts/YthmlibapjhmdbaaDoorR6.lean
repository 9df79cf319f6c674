/- The document's Digits. -/
import Derived.Test.YthmlibapjhmdbaaDoorTx3
import Derived.Test.YthmlibapjhmdbaaDoorR3
namespace Go.Proofs.YthmlibapjhmdbaaDoor
open Go.RowKit Go.Shelf

/-- string(b), of a slice of one byte. -/
theorem conv1 (W : World) (a : Nat) : (convert 72 9 (.slice (some ⟨W.heap.size, 0, none⟩) 1 1)).run Tryd.prog (W.alloc (.cells #[.int .u8 (a : Int)] 5)) = .ok (.string ⟨#[UInt8.ofNat a]⟩) (W.alloc (.cells #[.int .u8 (a : Int)] 5)) := by
  have hr := Row.new W .u8 5 [a] #[.int .u8 (a : Int)] rfl
  have hload := run_loadCells_list (P := Tryd.prog) (W.alloc (.cells #[.int .u8 (a : Int)] 5)) ⟨W.heap.size, 0, none⟩ [Value.int .u8 (a : Int)] (fun j v hv => by
    have hadd : (⟨W.heap.size, 0, none⟩ : Addr).add j = ⟨W.heap.size, j, none⟩ := by unfold Addr.add; split <;> simp_all
    have hj : j < 1 := by
      have := (List.getElem?_eq_some_iff.1 hv).1
      simpa using this
    obtain rfl : j = 0 := by omega
    rw [hadd, hr.cell 0 (by simp), ← hv]
    rfl)
  have hrun := run_convert_bytes_string (P := Tryd.prog) (W.alloc (.cells #[.int .u8 (a : Int)] 5)) 72 9 5 (some ⟨W.heap.size, 0, none⟩) 1 1 Tryd.underlying72 Tryd.underlying5 Tryd.underlying9
  have hm : [Value.int .u8 (a : Int)] = [(a : Int)].map (Value.int .u8) := rfl
  rw [hm] at hload
  exact hrun.trans ((run_bytesToString (W.alloc (.cells #[.int .u8 (a : Int)] 5)) _ _ 1 _ hload).trans rfl)

theorem dec_low {n : Nat} (h : n < 10) : dec n = ⟨#[UInt8.ofNat (48 + n)]⟩ := by
  unfold dec
  rw [Lib.decDigits, dif_pos h]
theorem dec_high {n : Nat} (h : ¬ n < 10) : dec n = dec (n / 10) ++ ⟨#[UInt8.ofNat (48 + n % 10)]⟩ := by
  unfold dec
  rw [Lib.decDigits, dif_neg h]
  apply by_inj
  rw [by_append]
  simp [by_]

set_option maxRecDepth 100000 in
set_option maxHeartbeats 400000 in
theorem digits_one (n : Nat) (w : World) (h : n < 10) :
    Calls Tryd.prog 46 #[.int .i64 n] w fun e w' => e = .returned (.string (dec n)) ∧ Below w.heap.size w w' := by
  have hcv := conv1
  obtain ⟨d, hd⟩ : ∃ d : Nat, d = 48 + n := ⟨_, rfl⟩
  have q1 : IntKind.u8.wrap (48 + (n : Int) % 10) = (d : Int) := by
    rw [IntKind.wrap_u8]; omega
  have hb := (Below.refl _ w).alloc (Nat.le_refl _) (.cells #[.int .u8 (d : Int)] 5)
  have HE := Lib.hid (dec_low h)
  rw [← hd] at HE
  have t0 : decide ((10 : Int) ≤ (n : Int)) = false := by simp; omega
  clear hd
  go_enter Tryd.func46, Tryd.ntmps46
  go_wp2_with fail
  go_ret
  exact ⟨by rw [HE.out]; rfl, hb⟩
set_option maxRecDepth 100000 in
set_option maxHeartbeats 400000 in
theorem digits_more (n : Nat) (w : World) (h : ¬ n < 10) (h2 : n < 1000) (hs : (dec (n / 10)).size ≤ 10) (H : ∀ V : World, Calls Tryd.prog 46 #[.int .i64 (n / 10 : Nat)] V fun e w' => e = .returned (.string (dec (n / 10))) ∧ Below V.heap.size V w') :
    Calls Tryd.prog 46 #[.int .i64 n] w fun e w' => e = .returned (.string (dec n)) ∧ Below w.heap.size w w' := by
  have hcv := conv1
  obtain ⟨d, hd⟩ : ∃ d : Nat, d = 48 + n % 10 := ⟨_, rfl⟩
  have q1 : IntKind.u8.wrap (48 + (n : Int) % 10) = (d : Int) := by
    rw [IntKind.wrap_u8]; omega
  have hb := (Below.refl _ w).alloc (Nat.le_refl _) (.cells #[.int .u8 (d : Int)] 5)
  have HE := Lib.hid (dec_high h)
  rw [← hd] at HE
  replace H := Lib.hid H
  have t0 : decide ((10 : Int) ≤ (n : Int)) = true := by simp; omega
  clear hd
  go_enter Tryd.func46, Tryd.ntmps46
  go_wp2_with fail
  refine (H.out _).mono ?_
  rintro e w1 ⟨rfl, hb1⟩
  clear hcv
  go_wp2_with fail
  go_ret
  exact ⟨by rw [HE.out]; rfl, bmore hb hb1⟩
theorem dec_sz {n : Nat} (h : n < 256) : (dec n).size ≤ 10 := Nat.le_trans (dec_size h) (by decide)
theorem digits_any (n : Nat) (w : World) (h : n < 256) :
    Calls Tryd.prog 46 #[.int .i64 n] w fun e w' => e = .returned (.string (dec n)) ∧ Below w.heap.size w w' := by
  have one : ∀ (n : Nat) (w : World), n < 100 → Calls Tryd.prog 46 #[.int .i64 n] w fun e w' => e = .returned (.string (dec n)) ∧ Below w.heap.size w w' := by
    intro n w h
    by_cases h1 : n < 10
    · exact digits_one n w h1
    · exact digits_more n w h1 (by omega) (dec_sz (by omega)) fun V => digits_one (n / 10) V (by omega)
  by_cases h1 : n < 10
  · exact digits_one n w h1
  · exact digits_more n w h1 (by omega) (dec_sz (by omega)) fun V => one (n / 10) V (by omega)
end Go.Proofs.YthmlibapjhmdbaaDoor
