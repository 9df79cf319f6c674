/- The document's examples: live tells true. -/
import Derived.Test.YthmlibapjhmdbaaDoorW23
namespace Go.Proofs.YthmlibapjhmdbaaDoor
open Go.RowKit Go.Shelf

/-- A slice of ints that is new memory, as its numbers. -/
theorem nats_new (w : World) (xs : List Nat) : NatsAt (w.alloc (.cells (vs .i64 xs) 3)) (w.alloc (.cells (vs .i64 xs) 3)).heap.size (some ⟨w.heap.size, 0, none⟩) xs := by
  refine .inr ⟨_, rfl, by simp, fun j hj => ?_⟩
  have hadd : (⟨w.heap.size, 0, none⟩ : Addr).add j = ⟨w.heap.size, j, none⟩ := by unfold Addr.add; split <;> simp_all
  rw [hadd]
  exact (Row.new w .i64 3 xs _ rfl).cell j hj
theorem cv_get (l : List Core) (j : Nat) (h : j < l.length) : (cv l)[j]? = some (.int .i64 (Mk.nth (l.map (·.1)) j : Nat)) := by
  simp [cv, Mk.nth_getElem?, h]
/-- A part of a slice of its own. -/
theorem nats_of_own {w : World} {base : Nat} {zs : List Core} {g cap : Nat} (h : w.ownsRow base 3 1 (.slice (some ⟨g, 0, none⟩) zs.length cap) zs.length (cv zs)) (lo q : Nat) (hq : lo + q ≤ zs.length) :
    NatsAt w w.heap.size (some ⟨g, lo, none⟩) (((zs.map (·.1)).drop lo).take q) := by
  rcases h.2 with ⟨h0, _⟩ | ⟨g', cap', cur, h1, h2, h3, h4, h5, h6, h7⟩
  · cases h0
  · cases h1
    refine .inr ⟨_, rfl, (Array.getElem?_eq_some_iff.1 h3).1, fun j hj => ?_⟩
    have hj2 : j < q := by simp at hj; omega
    have hadd : (⟨g, lo, none⟩ : Addr).add j = ⟨g, lo + j, none⟩ := by unfold Addr.add; split <;> simp_all
    rw [hadd, cell_of_row w g (lo + j) cur 3 (0, 0) h3]
    have e1 : cur[lo + j]? = (cv zs)[lo + j]? := by
      rw [← h7, List.getElem?_take, if_pos (by omega)]; simp
    rw [e1, cv_get zs (lo + j) (by omega)]
    congr 3
    rw [Mk.nth_getElem?, Mk.nth_getElem?, List.getElem?_take, if_pos hj2, List.getElem?_drop]
theorem nats_whole {w : World} {base : Nat} {zs : List Core} {A : Option Addr} {cap : Nat} (h : w.ownsRow base 3 1 (.slice A zs.length cap) zs.length (cv zs)) :
    NatsAt w w.heap.size A (zs.map (·.1)) := by
  rcases h.2 with ⟨h0, h1⟩ | ⟨g', cap', cur, h1, h2, h3, h4, h5, h6, h7⟩
  · exact .inl (by have : zs = [] := List.length_eq_zero_iff.1 h1
                   simp [this])
  · cases h1
    have := nats_of_own h 0 zs.length (by omega)
    rw [List.drop_zero, List.take_of_length_le (by simp)] at this
    exact this
theorem exA_W4 : Mk.W4 [18446744073709551615, 18446744073709551615, 18446744073709551615, 18446744073709551615] := by rw [← ex_all]; exact Mk.ofL_W4 (fun x hx => by simpa using hx)
theorem ex6_W4 : Mk.W4 [6, 0, 0, 0] := by
  have := Mk.ofL_W4 (xs := [1, 2]) (by decide)
  rwa [show Mk.ofL [1, 2] = [6, 0, 0, 0] by decide +kernel] at this
theorem exD_W4 : Mk.W4 [18446744073709551577, 18446744073709551615, 18446744073709551615, 9223372036854775807] := by
  have := Mk.ofL_W4 (xs := (List.range 256).filter (fun c => decide (c ≠ 1 ∧ c ≠ 2 ∧ c ≠ 5 ∧ c ≠ 255))) (fun x hx => by simpa using (List.mem_filter.1 hx).1)
  rwa [show Mk.ofL ((List.range 256).filter (fun c => decide (c ≠ 1 ∧ c ≠ 2 ∧ c ≠ 5 ∧ c ≠ 255))) = [18446744073709551577, 18446744073709551615, 18446744073709551615, 9223372036854775807] by decide +kernel] at this
theorem eA : Mk.ofL [5, 1, 2, 255] = [38, 0, 0, 9223372036854775808] := exM_of
theorem live_any (w : World) (G : Glob w) : Calls Tryd.prog 9 #[] w fun e w' => e = .returned (.bool true) ∧ Below w.heap.size w w' := by
  refine live_walk exM [6, 0, 0, 0] [18446744073709551615, 18446744073709551615, 18446744073709551615, 18446744073709551615] [18446744073709551577, 18446744073709551615, 18446744073709551615, 9223372036854775807] Mk.zero 38 0 0 9223372036854775808 6 0 0 0 18446744073709551615 18446744073709551615 18446744073709551615 18446744073709551615 w G exM_W4 ex6_W4 exA_W4 Mk.W4.zero rfl rfl rfl
    ?KOf ?KO2 ?KP ?KP2 ?KL2 ?KL5 ?KA ?KT ?KTl ?KCa ?KCm ?KCd ?KH1 ?KH0 ?KHn ?KMi ?KLi
  case KOf =>
    intro V
    have := of_ok (some ⟨V.heap.size, 0, none⟩) 4 [5, 1, 2, 255] _ (nats_new V [5, 1, 2, 255]) (by decide) (by decide) (by decide)
    rw [exM_of] at this
    exact this
  case KO2 =>
    intro V
    exact of_dup (some ⟨V.heap.size, 0, none⟩) 2 1 [1, 1] _ (nats_new V [1, 1]) (by decide) (by decide) (by decide) (by decide) (by decide) (by decide)
  case KP =>
    intro V G
    have := parse_any exT V G (by decide)
    rw [ex_parse] at this
    exact this
  case KP2 =>
    intro V G
    have := parse_any ⟨#[49, 44, 50]⟩ V G (by decide)
    rw [ex_parse2] at this
    exact this
  case KL2 =>
    intro V G
    have := lowest_nat 38 0 0 9223372036854775808 2 V exM_W4 G (by decide)
    rw [show lowOut [38, 0, 0, 9223372036854775808] 2 = ([6, 0, 0, 0], 0) from ex_low2] at this
    exact this
  case KL5 =>
    intro V G
    have := lowest_nat 38 0 0 9223372036854775808 5 V exM_W4 G (by decide)
    rw [show lowOut [38, 0, 0, 9223372036854775808] 5 = (Mk.zero, 12) from ex_low5] at this
    exact this
  case KA =>
    intro V
    have := maskAll_ok 256 V (by decide)
    rw [ex_all] at this
    exact this
  case KT =>
    intro V G
    have := text_any 38 0 0 9223372036854775808 V exM_W4 G
    rw [show nums (lc [38, 0, 0, 9223372036854775808] 256) = [1, 2, 5, 255] from exM_lc, show textOf [38, 0, 0, 9223372036854775808] [1, 2, 5, 255] = exT from exM_text] at this
    exact this
  case KTl =>
    intro V G
    have := text_any 6 0 0 0 V ex6_W4 G
    rw [ex6_lc, ex6_text] at this
    exact this
  case KCa =>
    intro V
    have := mcount_any [18446744073709551615, 18446744073709551615, 18446744073709551615, 18446744073709551615] V exA_W4
    rw [ex_cntAll] at this
    exact this
  case KCm =>
    intro V
    have := mcount_any exM V exM_W4
    rw [ex_cnt] at this
    exact this
  case KCd =>
    intro V
    have := mcount_any [18446744073709551577, 18446744073709551615, 18446744073709551615, 9223372036854775807] V exD_W4
    rw [ex_cntMinus] at this
    exact this
  case KH1 =>
    intro V
    have := has_in exM 255 V exM_W4 (by decide)
    rw [ex_has.1] at this
    exact this
  case KH0 =>
    intro V
    have := has_in exM 0 V exM_W4 (by decide)
    rw [ex_has.2] at this
    exact this
  case KHn =>
    intro V
    exact has_no exM (-1) V (.inl (by decide))
  case KMi =>
    intro V
    have := minus_any [18446744073709551615, 18446744073709551615, 18446744073709551615, 18446744073709551615] exM V exA_W4 exM_W4
    rw [ex_minus] at this
    exact this
  case KLi =>
    intro V G
    refine (list_any 38 0 0 9223372036854775808 V exM_W4 G).mono ?_
    rintro e w' ⟨v, rfl, hrow, hb⟩
    obtain ⟨X, ca, rfl⟩ := own_form hrow
    have hA := nats_whole hrow
    rw [show (lc [38, 0, 0, 9223372036854775808] 256).length = 4 by rw [← List.length_map (f := (·.1))]; exact congrArg List.length exM_lc]
    exact ⟨X, ca, rfl, by rw [← exM_lc]; exact hA, hb⟩
end Go.Proofs.YthmlibapjhmdbaaDoor
