/- The document's book: in memory; Job, All, Jobs. -/
import Derived.Test.YtahbdhhofppdaaaB6
import Derived.Test.YtahbdhhofppdaaaP0
namespace Go.Proofs.Ytahbdhhofppdaaa
open Go.RowKit Go.Shelf Go.Maps Go.Sort

theorem flat_at {α : Type} (f : α → List Value) (m : Nat) (hf : ∀ a, (f a).length = m) : ∀ (l : List α) (k : Nat) (a : α) (i : Nat), l[k]? = some a → i < m → (l.flatMap f)[k * m + i]? = (f a)[i]?
  | [], k, a, i, h, _ => by simp at h
  | b :: r, 0, a, i, h, hi => by
    simp at h
    subst h
    rw [List.flatMap_cons, Nat.zero_mul, Nat.zero_add, List.getElem?_append_left (by rw [hf]; exact hi)]
  | b :: r, k + 1, a, i, h, hi => by
    have h' : r[k]? = some a := by simpa using h
    rw [List.flatMap_cons, List.getElem?_append_right (by rw [hf, Nat.add_mul]; omega), hf]
    rw [show (k + 1) * m + i - m = k * m + i by rw [Nat.add_mul]; omega]
    exact flat_at f m hf r k a i h' hi
theorem flat_len {α : Type} (f : α → List Value) (m : Nat) (hf : ∀ a, (f a).length = m) : ∀ l : List α, (l.flatMap f).length = l.length * m
  | [] => by simp
  | b :: r => by rw [List.flatMap_cons, List.length_append, hf, flat_len f m hf r, List.length_cons, Nat.add_mul]; omega
/-- Jobs and numbers, one behind the other. -/
def pRow (L : List (Int × Int)) : List Value := L.flatMap fun d => [.int .i64 d.1, .int .i64 d.2]
theorem pRow_snoc (L : List (Int × Int)) (d : Int × Int) : pRow (L ++ [d]) = pRow L ++ [.int .i64 d.1, .int .i64 d.2] := by simp [pRow]
abbrev PRow (V : World) (B : Nat) (v : Value) (L : List (Int × Int)) : Prop := V.ownsRow B 79 2 v L.length (pRow L)
/-- The document's book. -/
structure RB (V : World) (q : Nat) (sl : Value) (L : List (Int × Int)) : Prop where
  blk : Bk V q 39 #[sl]
  row : PRow V 0 sl L
section
variable {V V' : World} {q B : Nat} {sl : Value} {S : List (Int × Int)}
theorem RB.next (h : RB V q sl S) (hb : Below V.heap.size V V') : RB V' q sl S := ⟨h.blk.next hb, own_next h.row hb⟩
theorem prow_at (h : PRow V B sl S) {k : Nat} {d : Int × Int} (hk : S[k]? = some d) : ∃ g cap, sl = .slice (some ⟨g, 0, none⟩) S.length cap ∧ V.cell? ⟨g, k * 2, none⟩ = some (.int .i64 d.1) ∧ V.cell? ⟨g, k * 2 + 1, none⟩ = some (.int .i64 d.2) := by
  have hlt := (List.getElem?_eq_some_iff.1 hk).1
  rcases h.2 with ⟨_, h0⟩ | ⟨g, cap, cur, rfl, hb, hg, hc, hm, hs, ht⟩
  · omega
  · have hcell : ∀ j u, j < S.length * 2 → (pRow S)[j]? = some u → V.cell? ⟨g, j, none⟩ = some u := by
      intro j u hj hu
      rw [cell_of_row V g j cur 79 (0, 0) hg]
      rw [← ht, List.getElem?_take, if_pos hj] at hu
      simpa using hu
    exact ⟨g, cap, rfl, hcell _ _ (by omega) (flat_at _ 2 (fun _ => rfl) S k d 0 hk (by omega)), hcell _ _ (by omega) (flat_at _ 2 (fun _ => rfl) S k d 1 hk (by omega))⟩
end
theorem info79 : (Try.prog.info? 79).map (fun i => (i.zero, i.size, i.bytes)) = some (some (.agg #[.int .i64 0, .int .i64 0]), 2, 16) := by kernel_rfl
theorem cells2_new (w : World) (a b : Value) (t : TypeId) : ∀ j u, [a, b][j]? = some u → (w.alloc (.cells #[a, b] t)).cell? ((⟨w.heap.size, 0, none⟩ : Addr).add j) = some u := by
  intro j u h
  have hadd : (⟨w.heap.size, 0, none⟩ : Addr).add j = ⟨w.heap.size, j, none⟩ := by unfold Addr.add; split <;> simp_all
  rw [hadd]
  exact (Bk.new w t #[a, b]).cell j u (by simpa using h)
theorem take_snoc {α : Type} {L : List α} {i : Nat} {x : α} (h : L[i]? = some x) : L.take (i + 1) = L.take i ++ [x] := by rw [List.take_add_one, h]; rfl
theorem get_ex {α : Type} {L : List α} {i : Nat} (h : i < L.length) : ∃ x, L[i]? = some x := ⟨L[i], List.getElem?_eq_getElem h⟩
theorem look_here {L : List (Int × Int)} {i : Nat} {x : Int × Int} (h : L[i]? = some x) (hno : look (L.take i) x.1 = none) : look L x.1 = some x.2 := by
  induction L generalizing i with
  | nil => simp at h
  | cons p r ih =>
    cases i with
    | zero =>
      simp at h
      subst h
      simp [look]
    | succ i =>
      rw [List.take_succ_cons] at hno
      unfold look at hno ⊢
      split at hno
      · cases hno
      · rename_i hne
        rw [if_neg hne]
        exact ih (by simpa using h) hno
theorem look_snoc_no {L : List (Int × Int)} {x : Int × Int} {j : Int} (h : look L j = none) (hx : x.1 ≠ j) : look (L ++ [x]) j = none := by
  induction L with
  | nil => simp [look, hx]
  | cons p r ih =>
    rw [List.cons_append]
    unfold look at h ⊢
    split at h
    · cases h
    · rename_i hne
      rw [if_neg hne]
      exact ih h
set_option maxRecDepth 100000 in
set_option maxHeartbeats 1000000 in
theorem rjob_any {V : World} {q : Nat} {sl : Value} {L : List (Int × Int)} (h : RB V q sl L) (hl : L.length ≤ 1000) (j : Int) : Calls Try.prog 26 #[.pointer (some ⟨q, 0, none⟩), .int .i64 j] V fun x V' => x = .returned (.int .i64 (jobS L j)) ∧ V = V' := by
  obtain ⟨A, cap, rfl⟩ := own_form h.row
  have c0 := h.blk.cell 0 _ rfl
  obtain ⟨n, hn⟩ : ∃ n, n = L.length := ⟨_, rfl⟩
  rw [← hn] at hl c0
  have HN := Lib.hid hn
  have HR := Lib.hid h.row
  clear hn h
  go_enter Try.func26, Try.ntmps26
  go_wp2_with fail
  go_loopw [5] (fun iv wr => ∃ (i : Nat), i ≤ n ∧ iv = .int .i64 (i : Int) ∧ look (L.take i) j = none ∧ V = wr) (fun iv _ => n - (intOf iv).toNat)
  case atStart => exact ⟨0, Nat.zero_le _, rfl, rfl, rfl⟩
  case round =>
    obtain ⟨i, hi, rfl, hno, rfl⟩ := hrel
    by_cases hlt : i < n
    · obtain ⟨x, hx⟩ := get_ex (L := L) (i := i) (by rw [← HN.out]; exact hlt)
      obtain ⟨g, cap', e, d0, d1⟩ := prow_at HR.out hx
      injection e with e1 e2 e3
      subst e1 e3
      clear e2
      have i0 : (0 : Int) ≤ (i : Int) := by omega
      have i1 : (i : Int) < (n : Int) := by omega
      have hno' := Lib.hid hno
      have HX := Lib.hid hx
      clear hno hx
      obtain ⟨x0, x1⟩ := x
      by_cases hj : x0 = j
      · have t : (x0 == j) = true := by simpa using hj
        have e0 := Lib.hid (show jobS L j = x1 from by
          subst hj
          unfold jobS
          rw [look_here HX.out hno'.out]; rfl)
        clear hj
        go_wp2_with fail
        go_ret
        exact ⟨by rw [e0.out]; rfl, rfl⟩
      · have t : (x0 == j) = false := by simpa using hj
        have hne := Lib.hid hj
        clear hj
        go_wp2_with fail
        go_roundw
        case rel => exact ⟨i + 1, by omega, by go_num, by rw [take_snoc HX.out]; exact look_snoc_no hno'.out hne.out, trivial⟩
        case measure => simp [intOf]; omega
    · obtain rfl : i = n := by omega
      have e0 := Lib.hid (show jobS L j = 0 from by
        unfold jobS
        rw [HN.out, List.take_length] at hno
        rw [hno]; rfl)
      clear hno
      go_wp2_with fail
      go_ret
      exact ⟨by rw [e0.out]; rfl, rfl⟩
theorem allS_snoc (l : List (Int × Int)) (x : Int × Int) : allS (l ++ [x]) = addE (allS l) x.2 := by simp [allS]
theorem OkL.take {L : List (Int × Int)} (h : OkL L) (i : Nat) : OkL (L.take i) := ⟨h.up.sublist (List.take_sublist i L), fun p hp => h.good p (List.mem_of_mem_take hp)⟩
set_option maxRecDepth 100000 in
set_option maxHeartbeats 1000000 in
theorem rall_any {V : World} {q : Nat} {sl : Value} {L : List (Int × Int)} (h : RB V q sl L) (ho : OkL L) (hl : L.length ≤ 1000) : Calls Try.prog 28 #[.pointer (some ⟨q, 0, none⟩)] V fun x V' => x = .returned (.int .i64 (allS L)) ∧ V = V' := by
  obtain ⟨A, cap, rfl⟩ := own_form h.row
  have c0 := h.blk.cell 0 _ rfl
  obtain ⟨n, hn⟩ : ∃ n, n = L.length := ⟨_, rfl⟩
  rw [← hn] at hl c0
  have HN := Lib.hid hn
  have HR := Lib.hid h.row
  have HO := Lib.hid ho
  clear hn h ho
  go_enter Try.func28, Try.ntmps28
  go_wp2_with fail
  go_loopw [3, 4] (fun s iv wr => ∃ (i : Nat), i ≤ n ∧ iv = .int .i64 (i : Int) ∧ s = .int .i64 (allS (L.take i)) ∧ V = wr) (fun _ iv _ => n - (intOf iv).toNat)
  case atStart => exact ⟨0, Nat.zero_le _, rfl, rfl, rfl⟩
  case round =>
    obtain ⟨i, hi, rfl, rfl, rfl⟩ := hrel
    by_cases hlt : i < n
    · obtain ⟨x, hx⟩ := get_ex (L := L) (i := i) (by rw [← HN.out]; exact hlt)
      obtain ⟨g, cap', e, d0, d1⟩ := prow_at HR.out hx
      injection e with e1 e2 e3
      subst e1 e3
      clear e2
      have i0 : (0 : Int) ≤ (i : Int) := by omega
      have i1 : (i : Int) < (n : Int) := by omega
      have HT := Lib.hid (take_snoc hx)
      have A := Lib.hid (radd_any (allS (L.take i)) x.2 (wf_of (allS_wf (HO.out.take i))) (wf_of (HO.out.good x (List.mem_of_getElem? hx)).2))
      have HA := Lib.hid (allS_snoc (L.take i) x)
      rw [← HA.out, ← HT.out] at A
      generalize e1 : allS (L.take (i + 1)) = s1 at *
      clear hx
      generalize allS (L.take i) = s at *
      obtain ⟨x0, x1⟩ := x
      go_wp2_with fail
      refine (A.out _).mono ?_
      rintro x w1 ⟨rfl, rfl⟩
      go_wp2_with fail
      go_roundw
      case rel => exact ⟨i + 1, by omega, by go_num, by rw [e1], trivial⟩
      case measure => simp [intOf]; omega
    · obtain rfl : i = n := by omega
      have e0 := Lib.hid (show L.take i = L from by rw [HN.out, List.take_length])
      rw [e0.out]
      go_wp2_with fail
      go_ret
      exact ⟨rfl, rfl⟩
set_option maxRecDepth 100000 in
set_option maxHeartbeats 1000000 in
theorem rjobs_any {V : World} {q : Nat} {sl : Value} {L : List (Int × Int)} (h : RB V q sl L) (hl : L.length ≤ 1000) : Calls Try.prog 31 #[.pointer (some ⟨q, 0, none⟩)] V (Keys V (L.map (·.1))) := by
  obtain ⟨i0', hi', hz0, hz1, hz2⟩ := info_parts info3
  obtain ⟨A, cap, rfl⟩ := own_form h.row
  have hc := h.blk.cell 0 _ rfl
  obtain ⟨n, hn⟩ : ∃ n, n = L.length := ⟨_, rfl⟩
  have HN := Lib.hid hn
  have H := Lib.hid h
  rw [← hn] at hl hc
  clear hn h
  go_enter Try.func31, Try.ntmps31
  go_wp2_with fail
  clear hc
  go_loopw [3, 4] (fun s iv wr => ∃ (i : Nat), i ≤ n ∧ iv = .int .i64 (i : Int) ∧ wr.ownsRow V.heap.size 3 1 s i (Ytahbdhhofppdaaa.iv ((L.take i).map (·.1))) ∧ Below V.heap.size V wr) (fun _ iv _ => n - (intOf iv).toNat)
  case atStart => exact ⟨0, Nat.zero_le _, rfl, World.ownsRow_nil _ _ _ _, Below.refl _ _⟩
  case round =>
    obtain ⟨i, hi, rfl, hrow, hb⟩ := hrel
    obtain ⟨A1, cap1, rfl⟩ := own_form hrow
    have h1 := H.out.next hb
    have c0 := h1.blk.cell 0 _ rfl
    rw [← HN.out] at c0
    by_cases hlt : i < n
    · obtain ⟨x, hx⟩ := get_ex (L := L) (i := i) (by rw [← HN.out]; exact hlt)
      obtain ⟨g, cap', e, d0, d1⟩ := prow_at h1.row hx
      injection e with e1 e2 e3
      subst e1 e3
      clear e2
      have j0 : (0 : Int) ≤ (i : Int) := by omega
      have j1 : (i : Int) < (n : Int) := by omega
      have HT := Lib.hid (take_snoc hx)
      have hsz := hb.size
      clear hx h1
      obtain ⟨x0, x1⟩ := x
      go_wp2_with (at_builtin; refine wpList_append_own _ rfl _ _ 45 rfl V.heap.size 3 i0' (.int .i64 0) 1 8 Try.underlying45 hi' hz0 hz1 hz2 rfl (by decide) _ _ _ rfl (hrow.alloc _) ⟨wr.heap.size, 0, none⟩ 1 1 [.int .i64 x0] rfl rfl (cell_one_new _ _ _) (by simp [Value.oneCell']) (by unfold maxLen; omega) (by omega) (by simp; omega) ?_; intro v' w1 hown' hgrow _; obtain ⟨g', cap2, rfl⟩ := ownsRow_succ hown'; have hb1 := appended_below hrow (by omega) hgrow)
      go_roundw
      case rel => exact ⟨i + 1, by omega, by go_num, by rw [HT.out, List.map_append, List.map_singleton, iv_snoc]; exact hown', hb.trans hb1⟩
      case measure => simp [intOf]; omega
    · obtain rfl : i = n := by omega
      have e0 := Lib.hid (show L.take i = L from by rw [HN.out, List.take_length])
      rw [e0.out] at hrow
      go_wp2_with fail
      go_ret
      exact ⟨_, rfl, by rw [List.length_map, ← HN.out]; exact hrow, hb⟩
end Go.Proofs.Ytahbdhhofppdaaa
