/- The document's queue: Cancel, Set. -/
import Derived.Test.YtinbaepligploaaR1
namespace Go.Proofs.Ytinbaepligploaa
open Go.RowKit Go.Shelf

theorem del_snoc_in {id : Int} {P : List Dl} {d : Dl} (h : d.1 ≠ id) : del id (P ++ [d]) = del id P ++ [d] := by simp [del, h]
theorem del_snoc_out {id : Int} {P : List Dl} {d : Dl} (h : d.1 = id) : del id (P ++ [d]) = del id P := by simp [del, h]
theorem take_snoc {S : List Dl} {k : Nat} {d : Dl} (h : S[k]? = some d) : S.take (k + 1) = S.take k ++ [d] := by rw [List.take_add_one, h]; rfl
theorem del_take_len (id : Int) (S : List Dl) (k : Nat) : (del id (S.take k)).length ≤ k := Nat.le_trans (List.length_filter_le _ _) (by rw [List.length_take]; omega)
theorem del_lt (id : Int) (S : List Dl) : decide ((del id S).length < S.length) = hasI id S := by
  cases h : hasI id S
  · rw [del_none h]; simp
  · simpa using del_len h
/-- The queue's slice laid down anew. -/
theorem RQ.laid {V W : World} {q : Nat} {sl v : Value} {S T : List Dl} (h : RQ V q sl S) (hb : Below V.heap.size V W) (hr : W.ownsRow V.heap.size 52 2 v T.length (rRow T)) : RQ (W.setCell ⟨q, 0, none⟩ v) q v T ∧ V.grownBy (W.setCell ⟨q, 0, none⟩ v) (some q) := by
  have hq := h.blk.lt
  have hk := h.blk.next hb
  refine ⟨⟨by simpa using hk.set 0 v, ownsRow_setCell_below (Joins.ownsRow_le hr (by omega)) (by simp) _⟩, ?_⟩
  exact ⟨hb.os, hb.tape, hb.output, by simpa using hb.size, fun i hi hne => (heap_setCell_other W ⟨q, 0, none⟩ i v (fun e => hne (by rw [e]))).trans (hb.block i hi)⟩
set_option maxRecDepth 100000 in
set_option maxHeartbeats 4000000 in
theorem rcancel_any {V : World} {q : Nat} {sl : Value} {S : List Dl} (h : RQ V q sl S) (ho : S.length ≤ 256) (id : Int) : Calls Try.prog 38 #[.pointer (some ⟨q, 0, none⟩), .int .i64 id] V fun x V' => x = .returned (.bool (hasI id S)) ∧ ∃ sl', RQ V' q sl' (del id S) ∧ V.grownBy V' (some q) := by
  obtain ⟨i0, hi, hz0, hz1, hz2⟩ := info_parts info52
  obtain ⟨A, cap, rfl⟩ := own_form h.row
  have HR := Lib.hid h
  have HDL := Lib.hid (del_lt id S)
  obtain ⟨n, hn⟩ : ∃ n, n = S.length := ⟨_, rfl⟩
  have h256 : n ≤ 256 := by omega
  replace hn := Lib.hid hn
  have HC := Lib.hid (fun W (hb : Below V.heap.size V W) => ((HR.out.blk.next hb).cell 0 _ rfl))
  rw [← hn.out] at HC HDL
  clear h ho
  rw [← hn.out] at HR
  go_enter Try.func38, Try.ntmps38
  go_wp2_with fail
  go_loopw [5, 6] (fun o iv wr => ∃ k : Nat, k ≤ n ∧ iv = .int .i64 (k : Int) ∧ wr.ownsRow V.heap.size 52 2 o (del id (S.take k)).length (rRow (del id (S.take k))) ∧ Below V.heap.size V wr) (fun _ iv _ => n - (intOf iv).toNat)
  case atStart => exact ⟨0, Nat.zero_le _, rfl, World.ownsRow_nil _ _ _ _, Below.refl _ _⟩
  case round =>
    obtain ⟨k, hk, rfl, hrow, hb⟩ := hrel
    obtain ⟨A2, cap2, rfl⟩ := own_form hrow
    have c0 := HC.out wr hb
    have hsz := hb.size
    by_cases hlt : k < n
    · obtain ⟨g, cap', e, d0, d1⟩ := rrow_at (own_next HR.out.row hb) (k := k) (by rw [← hn.out]; exact hlt)
      injection e with e1 e2 e3
      subst e1 e3
      have HT := Lib.hid (take_snoc (nt_get (L := S) (i := k) (by rw [← hn.out]; exact hlt)))
      have hdl := del_take_len id S k
      generalize nt S k = d at *
      clear e2
      have i2 : (0 : Int) ≤ (k : Int) := by omega
      have i3 : (k : Int) < (n : Int) := by omega
      by_cases hd : d.1 = id
      · have e5 : (d.1 != id) = false := by simpa using hd
        have e6 := Lib.hid (show del id (S.take (k + 1)) = del id (S.take k) from by rw [HT.out, del_snoc_out hd])
        clear hd
        go_wp2_with fail
        go_roundw
        case rel => exact ⟨k + 1, by omega, by go_num, by rw [e6.out]; exact hrow, hb⟩
        case measure => simp [intOf]; omega
      · have e5 : (d.1 != id) = true := by simpa using hd
        have e6 := Lib.hid (show del id (S.take (k + 1)) = del id (S.take k) ++ [d] from by rw [HT.out, del_snoc_in hd])
        clear hd
        generalize del id (S.take k) = P at *
        go_wp2_with (at_builtin; refine wpList_append_own _ rfl _ _ 27 rfl V.heap.size 52 i0 (.agg #[.int .i64 0, .int .i64 0]) 2 16 Try.underlying27 hi hz0 hz1 hz2 rfl (by decide) _ _ _ rfl (hrow.alloc _) ⟨wr.heap.size, 0, none⟩ 1 1 [.int .i64 d.2, .int .i64 d.1] rfl rfl (cells2_new _ _ _ _) (by simp [Value.oneCell']) (by unfold maxLen; omega) (by omega) (by simp; omega) ?_; intro v' w6 hown' hgrow _; obtain ⟨g', cap', rfl⟩ := ownsRow_succ hown'; have hb6 := appended_below hrow hsz hgrow)
        go_roundw
        case rel => exact ⟨k + 1, by omega, by go_num, by rw [e6.out, rRow_snoc, List.length_append]; exact hown', hb.trans hb6⟩
        case measure => simp [intOf]; omega
    · obtain rfl : k = n := by omega
      have eT : S.take k = S := by rw [hn.out, List.take_length]
      rw [eT] at hrow ⊢
      have f0 := (HR.out.blk.next hb).frozen 0
      have HZ := Lib.hid (RQ.laid (T := del id S) HR.out hb hrow)
      clear eT hrow
      generalize hdl : (del id S).length = l at *
      have HDL2 := HDL.out
      have hdl2 : decide ((l : Int) < (k : Int)) = hasI id S := by rw [← HDL2]; simp
      have hll : l ≤ 256 := by rw [← hdl]; exact Nat.le_trans (List.length_filter_le _ _) (by rw [← hn.out]; exact h256)
      clear hdl HDL HDL2
      go_wp2_with fail
      go_ret
      exact ⟨by rw [← hdl2]; first | rfl | simp, _, HZ.out⟩
end Go.Proofs.Ytinbaepligploaa
