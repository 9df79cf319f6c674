/- The document's net: Take, Drop. -/
import Derived.Test.YtlhfijjjfolldaaC1
namespace Go.Proofs.Ytlhfijjjfolldaa
open Go.RowKit Go.Maps

/-- What is left when all but place j of the first i are laid. -/
theorem erase_step {l : List Str} {i j : Nat} {x : Str} (hx : l[i]? = some x) : (l.take (i + 1)).eraseIdx j = if i = j then (l.take i).eraseIdx j else (l.take i).eraseIdx j ++ [x] := by
  have hi := (List.getElem?_eq_some_iff.1 hx).1
  have hlen : (l.take i).length = i := by rw [List.length_take]; omega
  rw [List.take_add_one, hx]
  show (l.take i ++ [x]).eraseIdx j = _
  by_cases h : i = j
  · subst h
    rw [if_pos rfl, List.eraseIdx_append_of_length_le (by omega), hlen, Nat.sub_self, List.eraseIdx_of_length_le (l := l.take i) (by omega)]
    simp
  · rw [if_neg h]
    by_cases h1 : j < i
    · rw [List.eraseIdx_append_of_lt_length (by omega)]
    · rw [List.eraseIdx_append_of_length_le (by omega), List.eraseIdx_of_length_le (l := l.take i) (by omega), List.eraseIdx_of_length_le (l := [x]) (by simp; omega)]
set_option maxRecDepth 100000 in
set_option maxHeartbeats 4000000 in
theorem rtake_any {w : World} {r cap : Nat} {m k : Int} {A : Option Addr} {l : List Str} (h : Rt w r m A cap l k) (i : Int) :
    Calls Try.prog 22 #[.pointer (some ⟨r, 0, none⟩), .int .i64 i] w fun e w' => e = .returned (.tuple #[.string (tkS l i), .bool (!l.isEmpty)]) ∧ ∃ A' cap', Rt w' r m A' cap' (tkL l i) k ∧ Rn w w' r A A' := by
  obtain ⟨ti, hi0, hz0, hz1, hz2⟩ := info_parts info9
  have KP := Lib.hid (rplace_any h i)
  have H := Lib.hid h
  have hlen := h.len
  rcases hl : l with _ | ⟨y, t⟩
  · subst hl
    clear h
    go_enter Try.func22, Try.ntmps22
    go_wp2_with fail
    refine KP.out.mono ?_
    rintro _ w1 ⟨rfl, rfl⟩
    rw [show plR [] i = -1 from rfl]
    go_wp2_with fail
    go_ret2
    exact ⟨rfl, _, _, H.out, Rn.same (Below.refl _ _)⟩
  · rw [← hl]
    have hl0 : 0 < l.length := by rw [hl]; simp
    have hne : l.isEmpty = false := by rw [hl]; rfl
    have hpl : plR l i = (plc l i : Int) := by unfold plR; rw [hne]; rfl
    rw [hpl] at KP
    rw [hne]
    obtain ⟨hpx, hp2⟩ := plc_cast hl0 i
    obtain ⟨x, hx⟩ : ∃ x, l[plc l i]? = some x := ⟨_, List.getElem?_eq_getElem hp2⟩
    have HX := Lib.hid (show tkS l i = x from by unfold tkS; rw [hx]; rfl)
    have HL : Hid (tkL l i = l.eraseIdx (plc l i)) := rfl
    obtain ⟨ad, rfl, had, cx⟩ := h.at_.at_ hx
    have AT := Lib.hid (fun a u V (ha : l[a]? = some u) (hV : Below w.heap.size w V) => (hV.cell (p := ad.add a) (by rw [block_add]; exact had)).trans (by
      obtain ⟨ad', e, _, cc⟩ := h.at_.at_ ha
      cases e
      exact cc))
    have hpe := Lib.hid hp2
    generalize plc l i = j at *
    have c1 := h.blk.cell 1 _ rfl
    clear hl hne hpl h had hpx
    have j0 : (0 : Int) ≤ (j : Int) := by omega
    have j1 : (j : Int) < (l.length : Int) := by omega
    obtain ⟨n, hn⟩ : ∃ n, n = l.length := ⟨_, rfl⟩
    rw [← hn] at c1 j1 hp2 hlen hl0
    have HN := Lib.hid hn
    clear hn
    go_enter Try.func22, Try.ntmps22
    go_wp2_with fail
    refine KP.out.mono ?_
    rintro _ w1 ⟨rfl, rfl⟩
    go_wp2_with fail
    go_loopg [8, 9] n (fun g s8 s9 wr => ∃ (a : Nat), a + g = n ∧ s9 = .int .i64 a ∧ Hid (wr.ownsRow w.heap.size 9 1 s8 ((l.take a).eraseIdx j).length (sv ((l.take a).eraseIdx j))) ∧ Below w.heap.size w wr)
    case atStart => exact ⟨0, by omega, rfl, Lib.hid ⟨rfl, .inl ⟨rfl, rfl⟩⟩, Below.refl _ _⟩
    case round =>
      obtain ⟨a, ha, rfl, hR, hb⟩ := hrel
      have c1 := (H.out.next hb).blk.cell 1 _ rfl
      rw [← HN.out] at c1
      cases gk with
      | zero =>
        obtain rfl : a = n := by omega
        have hlt : ¬ ((a : Int) < (a : Int)) := by omega
        have et : l.take a = l := List.take_of_length_le (by have := HN.out; omega)
        rw [et] at hR
        obtain ⟨A', cap', rfl⟩ := own_form hR.out
        have hf : ((l.eraseIdx j).length : Int) ≤ m := by
          have h1 := H.out.fit
          have h2 := List.length_eraseIdx_le l j
          omega
        obtain ⟨z1, z2, z3, z4⟩ := H.out.laid hb hR.out hf
        rw [← HN.out] at z1
        have Z3 := Lib.hid z3
        have Z4 := Lib.hid z4
        clear z3 z4
        go_wp2_with fail
        go_ret2
        exact ⟨by rw [HX.out]; rfl, A', ⟨cap', by rw [HL.out]; exact Z3.out⟩, Z4.out⟩
      | succ g1 =>
        have p0 : (0 : Int) ≤ (a : Int) := by omega
        have p1 : (a : Int) < (n : Int) := by omega
        obtain ⟨u, hu⟩ : ∃ u, l[a]? = some u := ⟨_, List.getElem?_eq_getElem (by have := HN.out; omega)⟩
        have cu := AT.out a u _ hu hb
        have HE := Lib.hid (erase_step (j := j) hu)
        obtain ⟨A8, c8, rfl⟩ := own_form hR.out
        by_cases haj : a = j
        · subst haj
          have t1 : ((a : Int) != (a : Int)) = false := by simp
          have R1 := hR.out
          rw [if_pos rfl] at HE
          rw [← HE.out] at R1
          have R2 := Lib.hid R1
          clear R1
          have eL : ((l.take (a + 1)).eraseIdx a).length = ((l.take a).eraseIdx a).length := by rw [HE.out]
          go_wp2_with fail
          go_roundg g1
          case measure => omega
          case rel => exact ⟨a + 1, by omega, by go_num, by rw [← eL]; exact R2, hb⟩
        · have t1 : ((a : Int) != (j : Int)) = true := by
            have : ¬ ((a : Int) = (j : Int)) := by omega
            simpa using this
          rw [if_neg haj] at HE
          have hll : ((l.take a).eraseIdx j).length ≤ 1000 := by
            have h1 := List.length_eraseIdx_le (l.take a) j
            have h2 : (l.take a).length ≤ l.length := by rw [List.length_take]; omega
            have := HN.out
            omega
          have hb2 := hb.alloc hb.size (.cells #[.string u] 9)
          have HR := Lib.hid (hR.out.alloc (.cells #[.string u] 9))
          have hcn := Lib.hid (cell_one_new wr (.string u) 9)
          have hsz := hb.size
          clear haj hu
          go_wp2_with (at_builtin; refine wpList_append_own_at _ rfl _ _ 30 rfl w.heap.size 9 ti (.string ⟨#[]⟩) 1 16 Try.underlying30 hi0 hz0 hz1 hz2 rfl (by decide) _ _ _ rfl HR.out ⟨wr.heap.size, 0, none⟩ 1 1 [.string u] rfl ?q1 ?q2 ?q3 ?q4 ?q5 ?q6 ?_)
          case q1 => rfl
          case q2 => exact hcn.out
          case q3 => simp [Value.oneCell']
          case q4 => unfold maxLen; omega
          case q5 => omega
          case q6 => simp; omega
          intro v4 w4 r4 g4 _ _
          have R4 : Hid (w4.ownsRow w.heap.size 9 1 v4 ((l.take (a + 1)).eraseIdx j).length (sv ((l.take (a + 1)).eraseIdx j))) := by
            rw [HE.out, List.length_append, sv_app]
            exact r4
          have B4 := hb2.grown g4 (by simp; omega) (fun q e => (HR.out.lt q e).1)
          clear r4 g4 hb2
          go_wp2_with fail
          go_roundg g1
          case measure => omega
          case rel => exact ⟨a + 1, by omega, by go_num, R4, B4⟩
set_option maxRecDepth 100000 in
set_option maxHeartbeats 1000000 in
theorem rdrop_any {w : World} {r cap : Nat} {m k : Int} {A : Option Addr} {l : List Str} (h : Rt w r m A cap l k) (i : Int) (k0 : 0 ≤ k) (k1 : k ≤ 1000000000) :
    Calls Try.prog 23 #[.pointer (some ⟨r, 0, none⟩), .int .i64 i] w fun e w' => e = .returned (.bool (!l.isEmpty)) ∧ ∃ A' cap', Rt w' r m A' cap' (tkL l i) (drK l k) ∧ Rn w w' r A A' := by
  have KT := Lib.hid (rtake_any h i)
  have HD := Lib.hid (show drK l k = if l.isEmpty then k else k + 1 from rfl)
  clear h
  generalize l.isEmpty = b at *
  go_enter Try.func23, Try.ntmps23
  go_wp2_with fail
  refine KT.out.mono ?_
  rintro _ w1 ⟨rfl, A', cap', q1, q2⟩
  cases b
  · have c2 := q1.blk.cell 2 _ rfl
    have f2 := q1.blk.frozen 2
    have Q := Lib.hid (q1.lost (k + 1))
    have Q2 := Lib.hid q2
    clear q1 q2 KT
    go_wp2_with fail
    go_ret
    exact ⟨rfl, A', cap', by rw [HD.out]; exact Q.out.1, Q2.out.trans Q.out.2⟩
  · have Q := Lib.hid q1
    have Q2 := Lib.hid q2
    clear q1 q2 KT
    go_wp2_with fail
    go_ret
    exact ⟨rfl, A', cap', by rw [HD.out]; exact Q.out, Q2.out⟩
end Go.Proofs.Ytlhfijjjfolldaa
