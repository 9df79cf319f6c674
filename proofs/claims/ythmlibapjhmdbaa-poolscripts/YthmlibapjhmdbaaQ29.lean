/- The document's pool: Commit, Release. -/
import Derived.Test.YthmlibapjhmdbaaQ28
namespace Go.Proofs.Ythmlibapjhmdbaa
open Go.RowKit Go.Shelf Go.Maps

/-- Whether Commit is refused. -/
def rcB (Ow Dn : List Int) (n : Int) : Bool := !rh Ow n || decide (n ∈ Dn)
set_option maxRecDepth 100000 in
set_option maxHeartbeats 2000000 in
theorem rcommit_any {w : World} {r s q na nb : Nat} {va vb : Value} {Ow Dn : List Int} (h : RPool w r s q va vb na nb Ow Dn) (hm : na ≤ 256) (hd : nb ≤ 1000) (n : Int) :
    Calls Try.prog 35 #[.pointer (some ⟨r, 0, none⟩), .int .i64 n] w fun e w' => (rcB Ow Dn n = true ∧ e = .returned (.int .i64 14) ∧ Below w.heap.size w w') ∨ (rcB Ow Dn n = false ∧ e = .returned (.int .i64 0) ∧ (∃ vb', RPool w' r s q va vb' na (nb + 1) Ow (Dn ++ [n])) ∧ Td (RX r va vb) w w') := by
  have KH := Lib.hid (rhas_any h hm n)
  have HH := Lib.hid h
  have hr := h.blk.lt
  clear h
  unfold rcB
  cases hh : rh Ow n with
  | false =>
    rw [hh] at KH
    clear hh
    go_enter Try.func35, Try.ntmps35
    go_wp2_with fail
    refine KH.out.mono ?_
    rintro _ w1 ⟨rfl, hb⟩
    go_wp2_with fail
    go_ret
    exact .inl ⟨rfl, rfl, hb⟩
  | true =>
    rw [hh] at KH
    clear hh
    cases hdn : decide (n ∈ Dn) with
    | true =>
      go_enter Try.func35, Try.ntmps35
      go_wp2_with fail
      refine KH.out.mono ?_
      rintro _ w1 ⟨rfl, hb⟩
      have KD := Lib.hid (done_any (HH.out.next hb) hd n)
      rw [hdn] at KD
      clear hdn
      go_wp2_with fail
      refine KD.out.mono ?_
      rintro _ w2 ⟨rfl, rfl⟩
      go_wp2_with fail
      go_ret
      exact .inl ⟨rfl, rfl, hb⟩
    | false =>
      obtain ⟨i0, hi, hz0, hz1, hz2⟩ := info_parts info3
      go_enter Try.func35, Try.ntmps35
      go_wp2_with fail
      refine KH.out.mono ?_
      rintro _ w1 ⟨rfl, hb⟩
      have KD := Lib.hid (done_any (HH.out.next hb) hd n)
      rw [hdn] at KD
      clear hdn
      go_wp2_with fail
      refine KD.out.mono ?_
      rintro _ w2 ⟨rfl, rfl⟩
      have H1 := Lib.hid (HH.out.next hb)
      have c3 := H1.out.blk.cell 3 _ rfl
      obtain ⟨A, cap, rfl⟩ := own_form H1.out.rb
      have HPB := Lib.hid (fun v' w6 q1 q2 q3 => RPool.pushB (x := n) (vb' := v') (w6 := w6) H1.out q1 q2 q3)
      go_wp2_with (at_builtin; refine wpList_append_own_at _ rfl _ _ 44 rfl (r + 1) 3 i0 (.int .i64 0) 1 8 Try.underlying44 hi hz0 hz1 hz2 rfl (by decide) _ _ _ rfl (H1.out.rb.alloc _) ⟨w1.heap.size, 0, none⟩ 1 1 [.int .i64 n] rfl rfl (cell_one_new _ _ _) (by simp [Value.oneCell']) (by unfold maxLen; omega) (by omega) (by have := H1.out.blk.lt; simp; omega) ?_; intro v8 w8 hown8 hg8 _ hat8; obtain ⟨y1, y2, y3, y4⟩ := HPB.out v8 w8 hown8 hg8 hat8; obtain ⟨A8, cap8, rfl⟩ := own_form hown8)
      go_ret
      exact .inr ⟨rfl, rfl, ⟨_, y3⟩, (Td.of_below hb).trans y4⟩
/-- Who committed, without one. -/
def rmD (Dn : List Int) (n : Int) : List Int := Dn.filter fun z => decide (z ≠ n)
theorem rmD_snoc (Dn : List Int) (n z : Int) (k : Nat) (h : Dn[k]? = some z) : rmD (Dn.take (k + 1)) n = if z = n then rmD (Dn.take k) n else rmD (Dn.take k) n ++ [z] := by
  unfold rmD
  rw [List.take_add_one, h, List.filter_append]
  by_cases e : z = n
  · subst e; simp
  · simp [e]
end Go.Proofs.Ythmlibapjhmdbaa
