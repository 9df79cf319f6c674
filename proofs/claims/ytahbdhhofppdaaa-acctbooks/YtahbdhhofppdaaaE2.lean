/- The document's book: Note. -/
import Derived.Test.YtahbdhhofppdaaaE1
namespace Go.Proofs.Ytahbdhhofppdaaa
open Go.RowKit Go.Shelf Go.Maps Go.Sort

/-- What has been laid behind i of them. -/
def Mid (L : List (Int × Int)) (j n : Int) (i : Nat) (P : List (Int × Int)) (laid : Bool) : Prop :=
  (laid = true ∧ P ++ L.drop i = insB L j n ∧ ∀ p ∈ L.drop i, j < p.1) ∨ (laid = false ∧ P = L.take i ∧ insB L j n = L.take i ++ insB (L.drop i) j n)
theorem drop_at {α : Type} {L : List α} {i : Nat} {x : α} (h : L[i]? = some x) : L.drop i = x :: L.drop (i + 1) := by
  have hlt := (List.getElem?_eq_some_iff.1 h).1
  have e := List.getElem?_eq_getElem hlt
  rw [h] at e
  injection e with e
  rw [List.drop_eq_getElem_cons hlt, ← e]
theorem OkL.drop {L : List (Int × Int)} (h : OkL L) (i : Nat) : OkL (L.drop i) := ⟨h.up.sublist (List.drop_sublist i L), fun p hp => h.good p (List.mem_of_mem_drop hp)⟩
section
variable {L P : List (Int × Int)} {j n : Int} {i : Nat} {x : Int × Int}
theorem Mid.start : Mid L j n 0 [] false := .inr ⟨rfl, rfl, rfl⟩
theorem Mid.on (h : Mid L j n i P true) (hx : L[i]? = some x) : j < x.1 ∧ Mid L j n (i + 1) (P ++ [x]) true := by
  rcases h with ⟨_, h1, h2⟩ | ⟨h0, _⟩
  · rw [drop_at hx] at h1 h2
    refine ⟨h2 x List.mem_cons_self, .inl ⟨rfl, by rw [List.append_assoc]; exact h1, fun p hp => h2 p (List.mem_cons_of_mem _ hp)⟩⟩
  · cases h0
theorem Mid.same (h : Mid L j n i P false) (ho : OkL L) (hx : L[i]? = some x) (e : x.1 = j) : Mid L j n (i + 1) (P ++ [(x.1, addE x.2 n)]) true := by
  rcases h with ⟨h0, _⟩ | ⟨_, h1, h2⟩
  · cases h0
  · have hd := ho.drop i
    rw [drop_at hx] at h2 hd
    refine .inl ⟨rfl, ?_, fun p hp => by have := (List.pairwise_cons.1 hd.up).1 p hp; omega⟩
    rw [h2, h1, insB, if_pos e, List.append_assoc]; rfl
theorem Mid.ahead (h : Mid L j n i P false) (ho : OkL L) (hx : L[i]? = some x) (e : j < x.1) : Mid L j n (i + 1) (P ++ [(j, n)] ++ [x]) true := by
  rcases h with ⟨h0, _⟩ | ⟨_, h1, h2⟩
  · cases h0
  · have hd := ho.drop i
    rw [drop_at hx] at h2 hd
    refine .inl ⟨rfl, ?_, fun p hp => by have := (List.pairwise_cons.1 hd.up).1 p hp; omega⟩
    rw [h2, h1, insB, if_neg (by omega), if_pos e]
    simp
theorem Mid.behind (h : Mid L j n i P false) (hx : L[i]? = some x) (e : x.1 < j) : Mid L j n (i + 1) (P ++ [x]) false := by
  rcases h with ⟨h0, _⟩ | ⟨_, h1, h2⟩
  · cases h0
  · rw [drop_at hx] at h2
    refine .inr ⟨rfl, by rw [take_snoc hx, h1], ?_⟩
    rw [h2, insB, if_neg (by omega), if_neg (by omega), take_snoc hx]
    simp
theorem Mid.end_on (h : Mid L j n L.length P true) : P = insB L j n := by
  rcases h with ⟨_, h1, _⟩ | ⟨h0, _⟩
  · rw [← h1]; simp
  · cases h0
theorem Mid.end_off (h : Mid L j n L.length P false) : P ++ [(j, n)] = insB L j n := by
  rcases h with ⟨h0, _⟩ | ⟨_, h1, h2⟩
  · cases h0
  · rw [h2, h1, List.drop_length, insB]
end
/-- Only the book's own block may have turned. -/
theorem RB.laid {V V1 : World} {q : Nat} {sl sl' : Value} {L P : List (Int × Int)} (h : RB V q sl L) (hb : Below V.heap.size V V1) (hr : PRow V1 V.heap.size sl' P) : RB (V1.setCell ⟨q, 0, none⟩ sl') q sl' P ∧ V.grownBy (V1.setCell ⟨q, 0, none⟩ sl') (some q) := by
  have h1 := h.next hb
  have hg := grownBy_setCell' V1 q sl'
  refine ⟨⟨h1.blk.set 0 sl', ?_⟩, ?_⟩
  · refine Joins.ownsRow_le (hr.kept hg ?_) (Nat.zero_le _)
    rcases hr.2 with ⟨e, _⟩ | ⟨g, cap, cur, rfl, hbg, _⟩
    · exact .inl (by rw [e]; rfl)
    · right
      have := h.blk.lt
      simp [Value.ownBlock]
      omega
  · exact ⟨hg.os.trans hb.os, hg.tape.trans hb.tape, hg.output.trans hb.output, Nat.le_trans hb.size hg.size, fun i hi hne => (hg.block i (by have := hb.size; omega) hne).trans (hb.block i hi)⟩
theorem prow_snoc {w : World} {B : Nat} {v : Value} {P : List (Int × Int)} {a b : Int} (h : w.ownsRow B 79 2 v (P.length + 1) (pRow P ++ [.int .i64 a, .int .i64 b])) : PRow w B v (P ++ [(a, b)]) := by
  unfold PRow
  rw [pRow_snoc, List.length_append]
  exact h
theorem prow_snoc2 {w : World} {B : Nat} {v : Value} {P : List (Int × Int)} {x : Int × Int} {a b : Int} (h : w.ownsRow B 79 2 v (P.length + 1 + 1) (pRow (P ++ [x]) ++ [.int .i64 a, .int .i64 b])) : PRow w B v (P ++ [x] ++ [(a, b)]) := by
  unfold PRow
  rw [pRow_snoc, List.length_append, List.length_append]
  exact h
theorem Mid.len {L P : List (Int × Int)} {j n : Int} {i : Nat} (h : Mid L j n i P false) : P.length ≤ i := by
  rcases h with ⟨h0, _⟩ | ⟨_, h1, _⟩
  · cases h0
  · rw [h1, List.length_take]; omega
theorem cells2_new1 (w : World) (o : Obj) (a b : Value) (t : TypeId) : ∀ j u, [a, b][j]? = some u → ((w.alloc o).alloc (.cells #[a, b] t)).cell? ((⟨w.heap.size + 1, 0, none⟩ : Addr).add j) = some u := by
  have := cells2_new (w.alloc o) a b t
  rw [size_alloc] at this
  exact this
theorem grown_trans {w V V' : World} {q : Nat} (h : Below w.heap.size w V) (z : V.grownBy V' (some q)) : w.grownBy V' (some q) := ⟨z.os.trans h.os, z.tape.trans h.tape, z.output.trans h.output, Nat.le_trans h.size z.size, fun i hi hne => (z.block i (by have := h.size; omega) hne).trans (h.block i hi)⟩
theorem bk_append {wr w5 : World} {B : Nat} {sl : Value} {P : List (Int × Int)} {o o' : Obj} {t : TypeId} {cs : Array Value} (hrow : PRow wr B sl P) (h : Bk (wr.alloc o) wr.heap.size t cs) (hg : ((wr.alloc o).alloc o').grownBy w5 sl.ownBlock) : Bk w5 wr.heap.size t cs := by
  refine (hg.block wr.heap.size (by simp; omega) ?_).trans (h.alloc o')
  rcases hrow.2 with ⟨rfl, _⟩ | ⟨g, cap, cur, rfl, _, hgb, _⟩
  · simp [Value.ownBlock]
  · have := (Array.getElem?_eq_some_iff.1 hgb).1
    simp [Value.ownBlock]
    omega
set_option maxRecDepth 100000 in
set_option maxHeartbeats 1000000 in
theorem rnote_no (q : Nat) (j c f t n : Int) (w : World) (K : ∀ V, Calls Try.prog 16 #[useV j c f t] V fun x w' => x = .returned (.tuple #[.int .i64 n, .int .i64 1]) ∧ Below V.heap.size V w') :
    Calls Try.prog 24 #[.pointer (some ⟨q, 0, none⟩), useV j c f t] w fun e w' => e = .returned (.int .i64 1) ∧ Below w.heap.size w w' := by
  have hb0 := below_alloc w (.cells #[.int .i64 j, .int .i64 c, .int .i64 f, .int .i64 t] 23)
  go_enter Try.func24, Try.ntmps24
  go_wp2_with fail
  refine (K _).mono ?_
  rintro x w1 ⟨rfl, hb⟩
  go_wp2_with fail
  go_ret
  exact ⟨rfl, bmore hb0 hb⟩
set_option maxRecDepth 100000 in
set_option maxHeartbeats 4000000 in
theorem rnote_ok {w : World} {q : Nat} {sl : Value} {L : List (Int × Int)} (h : RB w q sl L) (ho : OkL L) (hl : L.length ≤ 1000) (j c f t n : Int) (hn : 0 ≤ n ∧ n ≤ 9223372036854775807)
    (K : ∀ V, Calls Try.prog 16 #[useV j c f t] V fun x w' => x = .returned (.tuple #[.int .i64 n, .int .i64 0]) ∧ Below V.heap.size V w') :
    Calls Try.prog 24 #[.pointer (some ⟨q, 0, none⟩), useV j c f t] w fun e w' => ∃ sl', e = .returned (.int .i64 0) ∧ RB w' q sl' (insB L j n) ∧ w.grownBy w' (some q) := by
  obtain ⟨i0, hi, hz0, hz1, hz2⟩ := info_parts info79
  have hb0 := below_alloc w (.cells #[.int .i64 j, .int .i64 c, .int .i64 f, .int .i64 t] 23)
  have kr := Bk.new w 23 #[.int .i64 j, .int .i64 c, .int .i64 f, .int .i64 t]
  have h1 := h.next hb0
  have HW := Lib.hid hn
  have HO := Lib.hid ho
  clear hn ho
  go_enter Try.func24, Try.ntmps24
  go_wp2_with fail
  refine (K _).mono ?_
  rintro x V ⟨rfl, hb⟩
  replace kr := kr.next hb
  replace h1 := h1.next hb
  replace hb0 := bmore hb0 hb
  clear hb K h
  obtain ⟨A, cap, rfl⟩ := own_form h1.row
  obtain ⟨N, hN⟩ : ∃ N, N = L.length := ⟨_, rfl⟩
  have HN := Lib.hid hN
  have H := Lib.hid h1
  have HB := Lib.hid kr
  have HL := Lib.hid hb0
  rw [← hN] at hl
  clear hN h1 kr hb0
  go_wp2_with fail
  go_loopw [7, 8, 9] (fun s ld iv wr => ∃ (i : Nat) (P : List (Int × Int)) (b : Bool), i ≤ N ∧ iv = .int .i64 (i : Int) ∧ ld = .bool b ∧ Mid L j n i P b ∧ P.length ≤ i + 1 ∧ PRow wr V.heap.size s P ∧ Below V.heap.size V wr) (fun _ _ iv _ => N - (intOf iv).toNat)
  case atStart => exact ⟨0, [], false, Nat.zero_le _, rfl, rfl, Mid.start, by simp, World.ownsRow_nil _ _ _ _, Below.refl _ _⟩
  case round =>
    obtain ⟨i, P, b, hi2, rfl, rfl, hM, hPl, hrow, low⟩ := hrel
    obtain ⟨A1, cap1, rfl⟩ := own_form hrow
    have h1 := H.out.next low
    have k1 := HB.out.next low
    have c0 := h1.blk.cell 0 _ rfl
    rw [← HN.out] at c0
    have hsz := low.size
    have HM := Lib.hid hM
    clear hM
    by_cases hlt : i < N
    · obtain ⟨x, hx⟩ := get_ex (L := L) (i := i) (by rw [← HN.out]; exact hlt)
      obtain ⟨g, cap', e, d0, d1⟩ := prow_at h1.row hx
      injection e with e1 e2 e3
      subst e1 e3
      clear e2
      have j0 : (0 : Int) ≤ (i : Int) := by omega
      have j1 : (i : Int) < (N : Int) := by omega
      have HX := Lib.hid hx
      have HG := Lib.hid (HO.out.good x (List.mem_of_getElem? hx))
      clear hx h1
      obtain ⟨x0, x1⟩ := x
      have rA := hrow.alloc (.cells #[.int .i64 x0, .int .i64 x1] 79)
      have kA := (k1.alloc (.cells #[.int .i64 x0, .int .i64 x1] 79)).cell 0 _ rfl
      have lowA := low.alloc hsz (.cells #[.int .i64 x0, .int .i64 x1] 79)
      have k0 := k1.cell 0 _ rfl
      cases b
      · by_cases hj : x0 = j
        · have t0 : (x0 == j) = true := by simpa using hj
          have rB := hrow.alloc (.cells #[.int .i64 x0, .int .i64 (addE x1 n)] 79)
          have lowB := low.alloc hsz (.cells #[.int .i64 x0, .int .i64 (addE x1 n)] 79)
          have K := Lib.hid (radd_any x1 n (wf_of HG.out.2) (wf_of HW.out))
          have HM2 := Lib.hid (HM.out.same HO.out HX.out hj)
          clear hj
          go_wp2_with fail
          refine (K.out _).mono ?_
          rintro x w1 ⟨rfl, rfl⟩
          go_wp2_with (at_builtin; refine wpList_append_own _ rfl _ _ 37 rfl V.heap.size 79 i0 (.agg #[.int .i64 0, .int .i64 0]) 2 16 Try.underlying37 hi hz0 hz1 hz2 rfl (by decide) _ _ _ rfl (rB.alloc _) _ 1 1 [.int .i64 x0, .int .i64 (addE x1 n)] rfl rfl (cells2_new1 _ _ _ _ _) (by simp [Value.oneCell']) (by first | (unfold maxLen; omega) | (unfold maxLen; simp; omega)) (by first | omega | (simp; omega)) (by simp; omega) ?_; intro v6 w6 hown6 hgrow6 _; obtain ⟨g6, cap6, rfl⟩ := ownsRow_succ hown6; have hb6 := appended_below rB (by simp; omega) hgrow6)
          go_roundw
          case rel => exact ⟨i + 1, P ++ [(x0, addE x1 n)], true, by omega, by go_num, rfl, HM2.out, by simp; omega, prow_snoc hown6, lowB.trans hb6⟩
          case measure => simp [intOf]; omega
        · have t0 : (x0 == j) = false := by simpa using hj
          by_cases hlt2 : j < x0
          · have HM2 := Lib.hid (HM.out.ahead HO.out HX.out hlt2)
            have hP0 := HM.out.len
            have kX := Bk.new wr 79 #[.int .i64 x0, .int .i64 x1]
            clear hj
            go_wp2_with (first | (at_builtin; refine wpList_append_own _ rfl _ _ 37 rfl V.heap.size 79 i0 (.agg #[.int .i64 0, .int .i64 0]) 2 16 Try.underlying37 hi hz0 hz1 hz2 rfl (by decide) _ _ _ rfl (rA.alloc _) _ 1 1 [.int .i64 j, .int .i64 n] rfl rfl (cells2_new1 _ _ _ _ _) (by simp [Value.oneCell']) (by first | (unfold maxLen; omega) | (unfold maxLen; simp; omega)) (by first | omega | (simp; omega)) (by simp; omega) ?_; intro v5 w5 hown5 hgrow5 _; obtain ⟨g5, cap5, rfl⟩ := ownsRow_succ hown5; have hb5 := appended_below rA (by simp; omega) hgrow5; have r5 : PRow w5 V.heap.size (.slice (some ⟨g5, 0, none⟩) (P.length + 1) cap5) (P ++ [(j, n)]) := prow_snoc hown5; have kx5 := bk_append hrow kX hgrow5; have x50 := kx5.cell 0 _ rfl; have x51 := kx5.cell 1 _ rfl; have l5 := lowA.trans hb5; have hs5 := l5.size; clear hown5 hgrow5 kx5) | (at_builtin; refine wpList_append_own _ rfl _ _ 37 rfl V.heap.size 79 i0 (.agg #[.int .i64 0, .int .i64 0]) 2 16 Try.underlying37 hi hz0 hz1 hz2 rfl (by decide) _ _ _ rfl (r5.alloc _) _ 1 1 [.int .i64 x0, .int .i64 x1] rfl rfl (cells2_new _ _ _ _) (by simp [Value.oneCell']) (by first | (unfold maxLen; omega) | (unfold maxLen; simp; omega)) (by first | omega | (simp; omega)) (by simp; omega) ?_; intro v6 w6 hown6 hgrow6 _; obtain ⟨g6, cap6, rfl⟩ := ownsRow_succ hown6; have hb6 := appended_below r5 (by omega) hgrow6))
            go_roundw
            case rel => exact ⟨i + 1, P ++ [(j, n)] ++ [(x0, x1)], true, by omega, by go_num, rfl, HM2.out, by simp; omega, by have h7 := hown6; rw [show (P ++ [(j, n)]).length = P.length + 1 from by simp] at h7; exact prow_snoc2 h7, l5.trans hb6⟩
            case measure => simp [intOf]; omega
          · have HM2 := Lib.hid (HM.out.behind HX.out (show x0 < j by omega))
            clear hj
            go_wp2_with (at_builtin; refine wpList_append_own _ rfl _ _ 37 rfl V.heap.size 79 i0 (.agg #[.int .i64 0, .int .i64 0]) 2 16 Try.underlying37 hi hz0 hz1 hz2 rfl (by decide) _ _ _ rfl (rA.alloc _) _ 1 1 [.int .i64 x0, .int .i64 x1] rfl rfl (cells2_new1 _ _ _ _ _) (by simp [Value.oneCell']) (by first | (unfold maxLen; omega) | (unfold maxLen; simp; omega)) (by first | omega | (simp; omega)) (by simp; omega) ?_; intro v6 w6 hown6 hgrow6 _; obtain ⟨g6, cap6, rfl⟩ := ownsRow_succ hown6; have hb6 := appended_below rA (by simp; omega) hgrow6)
            go_roundw
            case rel => exact ⟨i + 1, P ++ [(x0, x1)], false, by omega, by go_num, rfl, HM2.out, by simp; omega, prow_snoc hown6, lowA.trans hb6⟩
            case measure => simp [intOf]; omega
      · have hon := HM.out.on HX.out
        have hlt2 : j < x0 := hon.1
        have HM2 := Lib.hid hon.2
        have t0 : (x0 == j) = false := by simp; omega
        clear hon
        go_wp2_with (at_builtin; refine wpList_append_own _ rfl _ _ 37 rfl V.heap.size 79 i0 (.agg #[.int .i64 0, .int .i64 0]) 2 16 Try.underlying37 hi hz0 hz1 hz2 rfl (by decide) _ _ _ rfl (rA.alloc _) _ 1 1 [.int .i64 x0, .int .i64 x1] rfl rfl (cells2_new1 _ _ _ _ _) (by simp [Value.oneCell']) (by first | (unfold maxLen; omega) | (unfold maxLen; simp; omega)) (by first | omega | (simp; omega)) (by simp; omega) ?_; intro v6 w6 hown6 hgrow6 _; obtain ⟨g6, cap6, rfl⟩ := ownsRow_succ hown6; have hb6 := appended_below rA (by simp; omega) hgrow6)
        go_roundw
        case rel => exact ⟨i + 1, P ++ [(x0, x1)], true, by omega, by go_num, rfl, HM2.out, by simp; omega, prow_snoc hown6, lowA.trans hb6⟩
        case measure => simp [intOf]; omega
    · obtain rfl : i = N := by omega
      rw [HN.out] at HM
      have f0 := h1.blk.frozen 0
      cases b
      · have k0 := k1.cell 0 _ rfl
        have eI := Lib.hid HM.out.end_off
        go_wp2_with (at_builtin; refine wpList_append_own _ rfl _ _ 37 rfl V.heap.size 79 i0 (.agg #[.int .i64 0, .int .i64 0]) 2 16 Try.underlying37 hi hz0 hz1 hz2 rfl (by decide) _ _ _ rfl (hrow.alloc _) _ 1 1 [.int .i64 j, .int .i64 n] rfl rfl (cells2_new _ _ _ _) (by simp [Value.oneCell']) (by first | (unfold maxLen; omega) | (unfold maxLen; simp; omega)) (by first | omega | (simp; omega)) (by simp; omega) ?_; intro v6 w6 hown6 hgrow6 _; obtain ⟨g6, cap6, rfl⟩ := ownsRow_succ hown6; have hb6 := appended_below hrow (by omega) hgrow6; have q6 := H.out.next (low.trans hb6); have c6 := q6.blk.cell 0 _ rfl; have f6 := q6.blk.frozen 0; clear q6)
        go_ret
        obtain ⟨z1, z2⟩ := H.out.laid (low.trans hb6) (show PRow w6 V.heap.size (.slice (some ⟨g6, 0, none⟩) (P.length + 1) cap6) (P ++ [(j, n)]) from prow_snoc hown6)
        rw [eI.out] at z1
        exact ⟨_, rfl, z1, grown_trans HL.out z2⟩
      · have eI := Lib.hid HM.out.end_on
        go_wp2_with fail
        go_ret
        obtain ⟨z1, z2⟩ := H.out.laid low hrow
        rw [← eI.out]
        exact ⟨_, rfl, z1, grown_trans HL.out z2⟩
end Go.Proofs.Ytahbdhhofppdaaa
