/- The document's Assign, of any wish. -/
import Derived.Test.YthmlibapjhmdbaaQ32
import Derived.Test.YthmlibapjhmdbaaW23
namespace Go.Proofs.Ythmlibapjhmdbaa
open Go.RowKit Go.Shelf Go.Maps

theorem gives_told {w : World} {zs : List Nat} {n : Nat} {e : Ending} {w' : World} (hn : zs.length = n) (h : GivesN w zs n e w') : Told w zs n 0 e w' := by
  obtain ⟨v, rfl, hrow, hb⟩ := h
  obtain ⟨A, cap, rfl⟩ := own_form hrow
  exact ⟨A, cap, rfl, nats_nv hn hrow, hb⟩
/-- What the document's Assign gives: a mask for each rank. -/
def Gav (w w' : World) (e : Ending) : Prop :=
  ∃ (gm R cap : Nat) (ms : List (List Nat)), e = .returned (.tuple #[.slice (some ⟨gm, 0, none⟩) R cap, .int .i64 0]) ∧ w.heap.size ≤ gm ∧ MasksAt w' w'.heap.size gm ms ∧ (∀ m ∈ ms, Mk.W4 m) ∧ ms.length = R ∧ R ≤ 32 ∧ Below w.heap.size w w'
theorem rk_W4 (fs : List Nat) (R Q : Nat) (hx : ∀ x ∈ fs, x < 256) : ∀ m ∈ rk fs R Q, Mk.W4 m := by
  intro m hm
  obtain ⟨i, _, rfl⟩ := List.mem_map.1 hm
  exact Mk.ofL_W4 fun x h => hx x (List.mem_of_mem_drop (List.mem_of_mem_take h))
theorem rassign_of {s q : Nat} {d : Int} {xs : List Nat} {n : Nat} (hd : ∀ W, Calls Try.prog 62 #[.agg #[.int .i64 s, .int .i64 q], .int .i64 d] W (Told W xs n 0)) (hn : xs.length = n) (hl : n ≤ 256) (hx : ∀ x ∈ xs, x < 256) (r pe : Int) (a b c e : Nat) (w : World) (hw : Mk.W4 [a, b, c, e]) :
    Calls Try.prog 51 #[.agg #[.int .i64 s, .int .i64 q], .agg #[.int .u64 a, .int .u64 b, .int .u64 c, .int .u64 e, .int .i64 r, .int .i64 pe, .int .i64 d]] w fun e w' => (∃ er : Int, e = .returned (.tuple #[.slice none 0 0, .int .i64 er]) ∧ er ≠ 0 ∧ Below w.heap.size w w') ∨ Gav w w' e := by
  rcases ROk_or r pe with ⟨R, Q, rfl, rfl, hR⟩ | hR
  · refine (rAssign_in s q d xs n R Q a b c e w hd hn hl hx hR hw).mono ?_
    rintro e' w' (⟨_, rfl, hb⟩ | ⟨_, g, cap, rfl, hgm, hM, hb⟩)
    · exact .inl ⟨12, rfl, by decide, hb⟩
    · exact .inr ⟨g, R, cap, _, rfl, hgm, hM, rk_W4 _ R Q (frk_lt hx n), rk_len _ R Q, hR.2.1, hb⟩
  · refine (rAssign_arg s q d r pe xs n a b c e w hd hR).mono ?_
    rintro e' w' ⟨rfl, hb⟩
    exact .inl ⟨1, rfl, by decide, hb⟩
theorem rassign_any (s q : Nat) (d r pe : Int) (a b c e : Nat) (w : World) (hL : LOk s q) (hw : Mk.W4 [a, b, c, e]) :
    Calls Try.prog 51 #[.agg #[.int .i64 s, .int .i64 q], .agg #[.int .u64 a, .int .u64 b, .int .u64 c, .int .u64 e, .int .i64 r, .int .i64 pe, .int .i64 d]] w fun e w' => (∃ er : Int, e = .returned (.tuple #[.slice none 0 0, .int .i64 er]) ∧ er ≠ 0 ∧ Below w.heap.size w w') ∨ Gav w w' e := by
  have h5 := hL.2.2.2.2
  by_cases h0 : d = 0
  · subst h0
    refine rassign_of (fun W => (rOrder_block s q W hL).mono fun _ _ h => gives_told (by simp) h) (by simp) h5 (fun x hx => ?_) r pe a b c e w hw
    simp at hx
    omega
  by_cases h1 : d = 1
  · subst h1
    refine rassign_of (fun W => (rOrder_cyclic s q W hL).mono fun _ _ h => gives_told (by simp) h) (by simp) h5 (fun x hx => ?_) r pe a b c e w hw
    obtain ⟨i, hi, rfl⟩ := List.mem_map.1 hx
    have := cyc_lt2 hL.1 (List.mem_range.1 hi)
    omega
  · refine (rAssign_no s q d r pe a b c e w (fun W => rOrder_none s q d W hL (by omega))).mono ?_
    rintro e' w' ⟨rfl, hb⟩
    exact .inl ⟨1, rfl, by decide, hb⟩
end Go.Proofs.Ythmlibapjhmdbaa
