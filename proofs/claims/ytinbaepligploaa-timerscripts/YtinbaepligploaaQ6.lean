/- heap's Fix, Pop, Remove. -/
import Derived.Test.YtinbaepligploaaQ5
namespace Go.Proofs.Ytinbaepligploaa
open Go.RowKit Go.Shelf

theorem heap_congr {n : Nat} {L M : List Dl} (h : Heap n L) (e : ∀ k, k < n → nt M k = nt L k) : Heap n M := fun k k0 kn => by
  have := par_lt k0
  rw [e k kn, e _ (by omega)]
  exact h k k0 kn
/-- The last one taken apart. -/
theorem split_last {L' M : List Dl} {m : Nat} {d : Dl} (hl : L'.length = m + 1) (hd : L'.drop m = M.drop m) (hM : M.length = m + 1) (hn : nt M m = d) : ∃ L0, L' = L0 ++ [d] ∧ L0.length = m := by
  refine ⟨L'.take m, ?_, by rw [List.length_take]; omega⟩
  have e : M.drop m = [d] := by
    rw [List.drop_eq_getElem_cons (by omega), ← hn, nt_eq (by omega), List.drop_of_length_le (by omega)]
  rw [← e, ← hd, List.take_append_drop]
theorem heap_front {L0 : List Dl} {d : Dl} {m : Nat} (h : Heap m (L0 ++ [d])) (hm : L0.length = m) : Heap L0.length L0 := by
  rw [hm]
  exact heap_congr h fun k hk => (nt_append_left (by omega)).symm
set_option maxRecDepth 100000 in
set_option maxHeartbeats 4000000 in
theorem fix_any {V : World} {p g cap : Nat} {M : List Dl} (h : QAt V p (.slice (some ⟨g, 0, none⟩) M.length cap) M) (i : Nat) (hi : i < M.length) (hm : M.length ≤ 900) (hh : Hole M.length i M) :
    Calls Try.prog 42 #[ifc p, .int .i64 (i : Int)] V fun x V' => (∃ u, x = .returned u) ∧ ∃ L', HQ V' p L' ∧ L'.Perm M ∧ Tr p V V' := by
  have c0 := h.blk.cell 0 _ rfl
  have ml := meth_len c0
  have K := Lib.hid (down_any h i M.length (Nat.le_refl _) (by omega) (by omega) hh)
  go_enter Try.func42, Try.ntmps42
  go_wp2_with fail
  refine (len_any _ _ _ _).mono ?_
  rintro x w2 ⟨rfl, rfl⟩
  go_wp2_with fail
  refine K.out.mono ?_
  rintro x w3 ⟨L', b, rfl, hin, hend⟩
  clear K c0 ml
  rcases hend with ⟨rfl, hp⟩ | ⟨rfl, rfl, hu⟩
  · go_wp2_with fail
    go_end0
    exact ⟨⟨_, rfl⟩, L', ⟨⟨_, hin.q⟩, by rw [hin.len]; exact hp⟩, hin.perm, hin.tr h⟩
  · have K := Lib.hid (up_any hin.q L'.length i hi (Nat.le_refl _) (by omega) hu)
    go_wp2_with fail
    refine K.out.mono ?_
    rintro x w4 ⟨⟨u2, rfl⟩, L2, hin2, hp⟩
    go_wp2_with fail
    go_end0
    exact ⟨⟨_, rfl⟩, L2, ⟨⟨_, hin2.q⟩, by rw [hin2.len]; exact hp⟩, hin2.perm, (hin.tr h).trans (hin2.tr hin.q)⟩
theorem hole_zero (M : List Dl) : Hole 0 0 M := ⟨fun k _ h => by omega, fun h => by omega⟩
theorem QAt.slice {V : World} {p : Nat} {v : Value} {L : List Dl} (h : QAt V p v L) (hl : 0 < L.length) : ∃ g cap, v = .slice (some ⟨g, 0, none⟩) L.length cap := by
  obtain ⟨g, cap, e, _⟩ := row_at h.row hl
  exact ⟨g, cap, e⟩
set_option maxRecDepth 100000 in
set_option maxHeartbeats 4000000 in
theorem pop_any {V : World} {p : Nat} {L : List Dl} (h : HQ V p L) (m : Nat) (hl : L.length = m + 1) (hm : m ≤ 900) :
    Calls Try.prog 44 #[ifc p] V fun x V' => x = .returned (.iface 77 (.agg #[.int .i64 (nt L 0).1, .int .i64 (nt L 0).2])) ∧ ∃ L', HQ V' p L' ∧ (L' ++ [nt L 0]).Perm L ∧ Tr p V V' := by
  obtain ⟨⟨v, hv⟩, hh⟩ := h
  obtain ⟨g, cap, rfl⟩ := hv.slice (by omega)
  have c0 := hv.blk.cell 0 _ rfl
  have ml := meth_len c0
  have ms := meth_swap c0
  rw [hl] at c0 ml ms
  have HS := Lib.hid (swap_any hv.row 0 m (by omega) (by omega) (by omega))
  rw [hl] at HS
  have HL := Lib.hid hl
  clear hl
  go_enter Try.func44, Try.ntmps44
  go_wp2_with fail
  refine (len_any _ _ _ _).mono ?_
  rintro x w2 ⟨rfl, rfl⟩
  go_wp2_with fail
  refine HS.out.mono ?_
  rintro x w3 ⟨⟨u, rfl⟩, hr, hg⟩
  clear HS c0 ml ms
  have q3 : QAt w3 p (.slice (some ⟨g, 0, none⟩) (sw L 0 m).length cap) (sw L 0 m) := ⟨by rw [sw_len]; exact hv.blk.grown hg (by have := hv.ne; omega), by rw [sw_len, HL.out]; exact hr⟩
  have hole : Hole m 0 (sw L 0 m) := by
    by_cases e : m = 0
    · subst e; exact hole_zero _
    · have h2 := hh
      rw [HL.out] at h2
      exact h2.hole_sw (by rw [HL.out]; omega) (by omega)
  have K := Lib.hid (down_any q3 0 m (by rw [sw_len, HL.out]; omega) (by rw [sw_len, HL.out]; omega) (by omega) hole)
  have T3 := Lib.hid (Tr.of_row (L := L) (v := .slice (some ⟨g, 0, none⟩) L.length cap) hg hv.row)
  clear hr hg hole
  go_wp2_with fail
  refine K.out.mono ?_
  rintro x w4 ⟨L', b, rfl, hin, hend⟩
  have hp : Heap m L' := by
    rcases hend with ⟨_, hp⟩ | ⟨_, rfl, hu⟩
    · exact hp
    · exact hu.top
  obtain ⟨L0, rfl, h0⟩ := split_last (d := nt L 0) (by rw [hin.len, sw_len]; exact HL.out) hin.drop (by rw [sw_len]; exact HL.out) (by rw [sw_nt (by rw [HL.out]; omega) (by rw [HL.out]; omega), if_pos rfl])
  have q4 : QAt w4 p (.slice (some ⟨g, 0, none⟩) (m + 1) cap) (L0 ++ [nt L 0]) := by have := hin.q; rw [List.length_append, h0] at this; exact this
  have K2 := Lib.hid (lpop_any q4 h0 (by omega))
  have T4 := Lib.hid (hin.tr q3)
  have P := Lib.hid (hin.perm.trans (sw_perm (L := L) (i := 0) (j := m) (by rw [HL.out]; omega) (by rw [HL.out]; omega)))
  clear hin hend K q3 q4
  go_wp2_with fail
  refine K2.out.mono ?_
  rintro x w5 ⟨rfl, q5, t5⟩
  go_wp2_with fail
  go_ret
  exact ⟨rfl, L0, ⟨⟨_, q5⟩, heap_front hp h0⟩, P.out, (T3.out.trans T4.out).trans t5⟩

/-- Behind Remove's turning: the one that goes stands last. -/
structure Rm (V W : World) (p g cap m : Nat) (L : List Dl) (d : Dl) (L0 : List Dl) : Prop where
  q : QAt W p (.slice (some ⟨g, 0, none⟩) (m + 1) cap) (L0 ++ [d])
  len : L0.length = m
  heap : Heap L0.length L0
  perm : (L0 ++ [d]).Perm L
  tr : Tr p V W
set_option maxRecDepth 100000 in
set_option maxHeartbeats 4000000 in
theorem remove_any {V : World} {p : Nat} {L : List Dl} (h : HQ V p L) (i m : Nat) (hl : L.length = m + 1) (hm : m ≤ 900) (hi : i ≤ m) :
    Calls Try.prog 45 #[ifc p, .int .i64 (i : Int)] V fun x V' => (∃ u, x = .returned u) ∧ ∃ L', HQ V' p L' ∧ (L' ++ [nt L i]).Perm L ∧ Tr p V V' := by
  obtain ⟨⟨v, hv⟩, hh⟩ := h
  obtain ⟨g, cap, rfl⟩ := hv.slice (by omega)
  have c0 := hv.blk.cell 0 _ rfl
  have ml := meth_len c0
  have ms := meth_swap c0
  rw [hl] at c0 ml ms
  have HS := Lib.hid (swap_any hv.row i m (by omega) (by omega) (by omega))
  rw [hl] at HS
  have HL := Lib.hid hl
  clear hl
  by_cases e : i = m
  · have e2 : ((m : Int) != (i : Int)) = false := by simp; omega
    obtain ⟨L0, e3, h0⟩ := split_last (L' := L) (M := L) (d := nt L i) HL.out rfl HL.out (by rw [e])
    have rm : Rm V V p g cap m L (nt L i) L0 := by
      refine ⟨?_, h0, ?_, by rw [← e3], Tr.refl _ _⟩
      · rw [← e3]; have := hv; rw [HL.out] at this; exact this
      · rw [HL.out, e3] at hh
        exact heap_front (hh.prefix_ (Nat.le_succ m)) h0
    clear hh hv HS ms e e3
    have K := Lib.hid (lpop_any rm.q rm.len (by omega))
    go_enter Try.func45, Try.ntmps45
    go_wp2_with fail
    refine (len_any _ _ _ _).mono ?_
    rintro x w2 ⟨rfl, rfl⟩
    go_wp2_with fail
    refine K.out.mono ?_
    rintro x w5 ⟨rfl, q5, t5⟩
    go_wp2_with fail
    go_ret
    exact ⟨⟨_, rfl⟩, L0, ⟨⟨_, q5⟩, rm.heap⟩, rm.perm, t5⟩
  have e2 : ((m : Int) != (i : Int)) = true := by simp; omega
  have him : i < m := by omega
  clear e hi
  go_enter Try.func45, Try.ntmps45
  go_wp2_with fail
  refine (len_any _ _ _ _).mono ?_
  rintro x w2 ⟨rfl, rfl⟩
  go_wp2_with fail
  refine HS.out.mono ?_
  rintro x w3 ⟨⟨u, rfl⟩, hr, hg⟩
  clear HS c0 ml ms
  have q3 : QAt w3 p (.slice (some ⟨g, 0, none⟩) (sw L i m).length cap) (sw L i m) := ⟨by rw [sw_len]; exact hv.blk.grown hg (by have := hv.ne; omega), by rw [sw_len, HL.out]; exact hr⟩
  have hole : Hole m i (sw L i m) := by
    have h2 := hh
    rw [HL.out] at h2
    exact h2.hole_sw (by rw [HL.out]; omega) him
  have K := Lib.hid (down_any q3 i m (by rw [sw_len, HL.out]; omega) (by rw [sw_len, HL.out]; omega) (by omega) hole)
  have T3 := Lib.hid (Tr.of_row (L := L) (v := .slice (some ⟨g, 0, none⟩) L.length cap) hg hv.row)
  have HNT := Lib.hid (show nt (sw L i m) m = nt L i by rw [sw_nt (by rw [HL.out]; omega) (by rw [HL.out]; omega), if_pos rfl])
  have HP := Lib.hid (sw_perm (L := L) (i := i) (j := m) (by rw [HL.out]; omega) (by rw [HL.out]; omega))
  have HSL := Lib.hid (show (sw L i m).length = m + 1 by rw [sw_len]; exact HL.out)
  generalize sw L i m = M at *
  clear hr hg hole hv hh
  go_wp2_with fail
  refine K.out.mono ?_
  rintro x w4 ⟨L', b, rfl, hin, hend⟩
  clear K
  rcases hend with ⟨rfl, hp⟩ | ⟨rfl, rfl, hu⟩
  · obtain ⟨L0, rfl, h0⟩ := split_last (d := nt L i) (by rw [hin.len]; exact HSL.out) hin.drop HSL.out HNT.out
    have rm : Rm V w4 p g cap m L (nt L i) L0 := ⟨by have := hin.q; rw [List.length_append, h0] at this; exact this, h0, heap_front hp h0, hin.perm.trans HP.out, T3.out.trans (hin.tr q3)⟩
    clear hin q3
    have K := Lib.hid (lpop_any rm.q rm.len (by omega))
    go_wp2_with fail
    refine K.out.mono ?_
    rintro x w5 ⟨rfl, q5, t5⟩
    go_wp2_with fail
    go_ret
    exact ⟨⟨_, rfl⟩, L0, ⟨⟨_, q5⟩, rm.heap⟩, rm.perm, rm.tr.trans t5⟩
  · have K := Lib.hid (up_any hin.q m i him (by rw [HSL.out]; omega) (by rw [HSL.out]; omega) hu)
    go_wp2_with fail
    refine K.out.mono ?_
    rintro x w5 ⟨⟨u2, rfl⟩, L2, hin2, hp⟩
    obtain ⟨L0, rfl, h0⟩ := split_last (d := nt L i) (by rw [hin2.len]; exact HSL.out) hin2.drop HSL.out HNT.out
    have rm : Rm V w5 p g cap m L (nt L i) L0 := ⟨by have := hin2.q; rw [List.length_append, h0] at this; exact this, h0, heap_front hp h0, hin2.perm.trans HP.out, (T3.out.trans (hin.tr q3)).trans (hin2.tr hin.q)⟩
    clear hin2 hin q3 K
    have K := Lib.hid (lpop_any rm.q rm.len (by omega))
    go_wp2_with fail
    refine K.out.mono ?_
    rintro x w6 ⟨rfl, q5, t5⟩
    go_wp2_with fail
    go_ret
    exact ⟨⟨_, rfl⟩, L0, ⟨⟨_, q5⟩, rm.heap⟩, rm.perm, rm.tr.trans t5⟩
end Go.Proofs.Ytinbaepligploaa
