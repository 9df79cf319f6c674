/- Nets: Twice; a region whose loads are taken first though its end writes what they read. -/
import Derived.Test.YtlhfijjjfolldaaA7
import Derived.OrdersHeld
namespace Go.Proofs.Ytlhfijjjfolldaa
open Go.RowKit Go.Maps

section
variable {P : Program} {ops : Array Oper} {Q : Exit → Act → World → Prop} {md : Region.Mode} {S : World → Prop} {z : Nat → Bool}
/-- Whatever order is picked from here on, and S holds behind every operation that is carried out, but those of z. -/
def wpAnyZ (P : Program) (md : Region.Mode) (ops : Array Oper) (Q : Exit → Act → World → Prop) (S : World → Prop) (z : Nat → Bool) : Nat → Array Bool → Act → World → Prop
  | 0, listed, a, w => Region.ready md ops listed = [] ∧ Q .normal a w
  | fuel + 1, listed, a, w =>
    (Region.ready md ops listed = [] → Q .normal a w) ∧
    ∀ i ∈ Region.ready md ops listed, wpOp P ops Q i (fun a' w' => (z i = false → S w') ∧ wpAnyZ P md ops Q S z fuel (listed.setIfInBounds i true) a' w') a w
theorem wpAny_of_z : ∀ (fuel : Nat) (listed : Array Bool) (a : Act) (w : World), wpAnyZ P md ops Q S z fuel listed a w → wpAny P md ops Q fuel listed a w
  | 0, _, _, _, h => h
  | fuel + 1, _, _, _, h => ⟨h.1, fun i hi => wpOp_mono (fun a' w' h' => wpAny_of_z fuel _ a' w' h'.2) (h.2 i hi)⟩
/-- All of z wait for operation i. -/
def zWaits (md : Region.Mode) (ops : Array Oper) (z : Nat → Bool) (i : Nat) : Bool := (List.range ops.size).all fun j => !z j || (match ops[j]? with | some o => o.after.any fun e => Region.binds md e && e.on == i | none => true)
theorem zWaits_spec {i j : Nat} {oj : Oper} (h : zWaits md ops z i = true) (hj : ops[j]? = some oj) (hz : z j = true) : ∃ e ∈ oj.after, Region.binds md e = true ∧ e.on = i := by
  have hlt := (Array.getElem?_eq_some_iff.1 hj).1
  have h1 := List.all_eq_true.1 h j (List.mem_range.2 hlt)
  rw [hj, hz] at h1
  simp only [Bool.not_true, Bool.false_or] at h1
  obtain ⟨e, he, hb⟩ := Array.any_eq_true'.1 h1
  simp only [Bool.and_eq_true, beq_iff_eq] at hb
  exact ⟨e, he, hb⟩
theorem wpAnyZ_first {i : Nat} {oi : Oper} {v : Value} (hi : ops[i]? = some oi) (hsel : ∀ (j : Nat) (o : Oper) cs b, ops[j]? = some o → o.op ≠ .select cs b)
    (hQ : ∀ c a w, Q (.panic c) (a.put oi.dst v) w → Q (.panic c) a w) (hz : zWaits md ops z i = true) :
    ∀ (fuel : Nat) (listed : Array Bool) (a : Act) (w : World),
      (∀ j oj, ops[j]? = some oj → j ≠ i → listed.getD j true = false → (∀ e ∈ oj.after, Region.binds md e = true → e.on ≠ i) → oi.apart ops oj = true) →
      i ∈ Region.ready md ops listed → YieldsIf P ops S oi v a → S w →
      wpAnyZ P md ops Q S z fuel (listed.setIfInBounds i true) (a.put oi.dst v) w → wpAnyZ P md ops Q S z (fuel + 1) listed a w := by
  intro fuel
  induction fuel with
  | zero =>
    intro listed a w _ hr hy hS H
    refine ⟨fun h => (by rw [h] at hr; cases hr), fun j hj => ?_⟩
    by_cases hji : j = i
    · subst hji; exact hy.wpOp hi hS ⟨fun _ => hS, H⟩
    · have := ready_mono hj hji
      rw [H.1] at this
      cases this
  | succ fuel ih =>
    intro listed a w hfree hr hy hS H
    refine ⟨fun h => (by rw [h] at hr; cases hr), fun j hj => ?_⟩
    by_cases hji : j = i
    · subst hji; exact hy.wpOp hi hS ⟨fun _ => hS, H⟩
    · have h1 := H.2 j (ready_mono hj hji)
      obtain ⟨hjun, oj, hoj, hall⟩ := mem_ready.1 hj
      have hnot : ∀ e ∈ oj.after, Region.binds md e = true → e.on ≠ i := fun e he hb heq => by
        have h1 := hall e he hb
        have h0 := (mem_ready.1 hr).1
        rw [heq] at h1
        rcases Nat.lt_or_ge i listed.size with h' | h'
        · simp [h'] at h0 h1; rw [h0] at h1; cases h1
        · simp [Array.getElem?_eq_none h'] at h1
      have hzj : z j = false := by
        cases hq : z j with
        | false => rfl
        | true =>
          obtain ⟨e, he, hb, hon⟩ := zWaits_spec hz hoj hq
          exact absurd hon (hnot e he hb)
      have h2 := wpOp_putIf hoj (hfree j oj hoj hji hjun hnot) (fun cs b => hsel i oi cs b hi) (fun cs b => hsel j oj cs b hoj) hQ hy h1
      have hfree' : ∀ k ok, ops[k]? = some ok → k ≠ i → (listed.setIfInBounds j true).getD k true = false →
          (∀ e ∈ ok.after, Region.binds md e = true → e.on ≠ i) → oi.apart ops ok = true := fun k ok hk hki hun hno => by
        refine hfree k ok hk hki ?_ hno
        by_cases hjk : j = k
        · subst hjk; exact hjun
        · rw [getD_set_ne true hjk] at hun; exact hun
      refine wpOp_mono (fun a' w' h3 => ⟨h3.2.1, ih (listed.setIfInBounds j true) a' w' hfree' (ready_mono hr (Ne.symm hji)) h3.1 (h3.2.1 hzj) ?_⟩) h2
      rw [Array.setIfInBounds_comm _ _ hji]
      exact h3.2.2
theorem wpAnyZ_take {i : Nat} {oi : Oper} {v : Value} {fuel : Nat} {listed : Array Bool} {a : Act} {w : World} (hi : ops[i]? = some oi)
    (hs : Region.noSelect ops = true) (hf : Region.free md ops listed i = true) (hr : (Region.ready md ops listed).contains i = true) (hz : zWaits md ops z i = true)
    (hQ : ∀ c a w, Q (.panic c) (a.put oi.dst v) w → Q (.panic c) a w) (hy : YieldsIf P ops S oi v a) (hS : S w)
    (h : wpAnyZ P md ops Q S z fuel (listed.setIfInBounds i true) (a.put oi.dst v) w) : wpAnyZ P md ops Q S z (fuel + 1) listed a w :=
  wpAnyZ_first hi (Region.noSelect_spec hs) hQ hz fuel listed a w (Region.free_spec hi hf) (by simpa using hr) hy hS h
theorem wpAnyZ_one {i : Nat} {o : Oper} {fuel : Nat} {listed : Array Bool} {a : Act} {w : World} (hr : Region.ready md ops listed = [i]) (ho : ops[i]? = some o)
    (h : ∀ K' : Act → World → Prop, (∀ a' w', (z i = false → S w') → wpAnyZ P md ops Q S z fuel (listed.setIfInBounds i true) a' w' → K' a' w') → if Region.wanted o (yielded ops a.tmps) = true then Oper.wp P o a w K' Q else K' (a.put o.dst undef) w) : wpAnyZ P md ops Q S z (fuel + 1) listed a w := by
  refine ⟨fun h0 => (by rw [hr] at h0; cases h0), fun j hj => ?_⟩
  rw [hr] at hj
  obtain rfl : j = i := by simpa using hj
  exact wpOp_step ho fun K' hK => h K' fun a' w' h1 h2 => hK a' w' ⟨h1, h2⟩
theorem wpAnyZ_done {listed : Array Bool} {a : Act} {w : World} (hr : Region.ready md ops listed = []) (h : Q .normal a w) :
    ∀ fuel, wpAnyZ P md ops Q S z fuel listed a w
  | 0 => ⟨hr, h⟩
  | _ + 1 => ⟨fun _ => h, by rw [hr]; simp⟩
theorem wp_region_z {id : Nat} {a : Act} {w : World} (S : World → Prop) (z : Nat → Bool) (hm : P.follows .mixedOrders = true)
    (h : wpAnyZ P .any ops Q S z ops.size (Array.replicate ops.size false) a w.drew) : (Code.region id ops true).wp P Q a w :=
  wp_region_any hm (wpAny_of_z _ _ _ _ h)
end
set_option maxRecDepth 100000 in
set_option maxHeartbeats 8000000 in
theorem twice_any {w : World} {p : Nat} {m k : Int} {v : Value} {l : List Str} (h : NtAt w p m v l k) (i : Int) :
    Calls Try.prog 20 #[.pointer (some ⟨p, 0, none⟩), .int .i64 i] w fun e w' => e = .returned (.bool (twB l m)) ∧ ∃ v', NtAt w' p m v' (twL l m i) k ∧ Tn w w' p v v' := by
  have KS := Lib.hid (fun (n : In w.heap.size w) => size_any (h.next n.ok))
  have H := Lib.hid h
  have hlt := h.blk.lt
  have hlen := h.len
  have c0 := In.cell (B := w.heap.size) hlt (h.blk.cell 0 _ rfl)
  have hIn := inNonempty w.heap.size w
  rcases hl : l with _ | ⟨y, r⟩
  · subst hl
    clear h
    go_enter Try.func20, Try.ntmps20
    go_upto_region 1 with fail
    refine region_in w.heap.size (by kernel_rfl) (by kernel_rfl) ?_
    repeat (go_big_quiet_step (first | (go_at_call 26; with_reducible exact Calls.in_of (Nat.le_refl _) ((KS.out _).mono fun _ _ q => ⟨q.1, by rw [← q.2]; exact Below.refl _ _⟩))))
    refine wpQuiet_nil ?_
    intro w6 hb6
    have L6 := Lib.hid hb6
    clear hb6
    go_wp2_with fail
    go_ret
    exact ⟨rfl, v, H.out.next L6.out, Tn.same L6.out⟩
  · rw [← hl]
    have hl0 : 0 < l.length := by rw [hl]; simp
    have hne : l.isEmpty = false := by rw [hl]; rfl
    have HB : Hid (twB l m = decide ((l.length : Int) < m)) := by
      show _ = _
      unfold twB
      rw [hne]
      rfl
    have HL : Hid (twL l m i = if twB l m then l ++ [tkS l i] else l) := rfl
    obtain ⟨hp1, hp2⟩ := plc_cast hl0 i
    obtain ⟨x, hx⟩ : ∃ x, l[plc l i]? = some x := ⟨_, List.getElem?_eq_getElem hp2⟩
    have HX := Lib.hid (show tkS l i = x from by unfold tkS; rw [hx]; rfl)
    have KP := Lib.hid (fun W => place_s i l.length hl0 (by omega) W)
    rw [← hp1] at KP
    have HXX := Lib.hid hx
    have t9 : ((l.length : Int) == 0) = false := by
      have : ¬ ((l.length : Int) = 0) := by omega
      simpa using this
    generalize plc l i = j at *
    clear hl hne hp1 hx h
    by_cases hm : (l.length : Int) < m
    · have HB2 := Lib.hid (show twB l m = true from HB.out.trans (decide_eq_true hm))
      have t0 : decide (m ≤ (l.length : Int)) = false := decide_eq_false (by omega)
      go_enter Try.func20, Try.ntmps20
      go_upto_region 1 with fail
      refine region_in w.heap.size (by kernel_rfl) (by kernel_rfl) ?_
      repeat (go_big_quiet_step (first | (go_at_call 26; with_reducible exact Calls.in_of (Nat.le_refl _) ((KS.out _).mono fun _ _ q => ⟨q.1, by rw [← q.2]; exact Below.refl _ _⟩))))
      refine wpQuiet_nil ?_
      intro w6 hb6
      have L6 := Lib.hid hb6
      have H6 := Lib.hid (H.out.next hb6)
      clear hb6 c0 hIn
      go_wp2_with fail
      obtain ⟨g, cap, rfl⟩ := row_some H6.out.row hl0
      have H7 := Lib.hid (H6.out.next (Below.refl _ _).drew)
      have c1 := H7.out.blk.cell 1 _ rfl
      have x0 := row_cell H7.out.row HXX.out
      have c2 : (w6.alloc (.cells #[.string x] 9)).cell? ⟨p, 1, none⟩ = some (.slice (some ⟨g, 0, none⟩) l.length cap) := (H6.out.next (below_alloc w6 (.cells #[.string x] 9))).blk.cell 1 _ rfl
      have T8 := Lib.hid ((Tn.same (p := p) (v := .slice (some ⟨g, 0, none⟩) l.length cap) L6.out).trans ((Tn.same (below_alloc w6 (.cells #[.string x] 9))).trans (Tn.same (Below.refl _ _).drew)))
      have H8 : Hid (NtAt (w6.alloc (.cells #[.string x] 9)).drew p m (.slice (some ⟨g, 0, none⟩) l.length cap) l k) := Lib.hid ((H6.out.next (below_alloc w6 (.cells #[.string x] 9))).next (Below.refl _ _).drew)
      have hp8 := Lib.hid (show p ≤ (w6.alloc (.cells #[.string x] 9)).drew.heap.size from by have := H8.out.blk.lt; omega)
      have HS := Lib.hid (fun v' w1 q1 q2 q3 => H8.out.store (v' := v') (l' := l ++ [x]) (w1 := w1) q2 q1 (by rw [List.length_append]; simp; omega) q3)
      have i0 : (0 : Int) ≤ (j : Int) := by omega
      have i1 : (j : Int) < (l.length : Int) := by omega
      have hcell : Hid (∀ j u, ([.string x] : List Value)[j]? = some u → (w6.alloc (.cells #[.string x] 9)).drew.cell? ((⟨w6.heap.size, 0, none⟩ : Addr).add j) = some u) := Lib.hid (fun j u h => cell_one_new w6 (.string x) 9 j u h)
      have hj7 := Lib.hid (show (l ++ [x]).length = l.length + 1 from by simp)
      refine wp_region_z (fun W => W.cell? ⟨p, 1, none⟩ = some (.slice (some ⟨g, 0, none⟩) l.length cap)) (fun j => j == 19) (by kernel_rfl) ?_
      refine wpAnyZ_take (fuel := 19) (i := 0) rfl (by kernel_rfl) (by kernel_rfl) (by kernel_rfl) (by kernel_rfl) (fun _ _ _ h => h) (Or.inl ⟨by rfl, fun V hV => by go_simp; rfl⟩) c1 ?_
      simp only [Act.put, List.setIfInBounds_toArray]
      refine wpAnyZ_take (fuel := 18) (i := 1) rfl (by kernel_rfl) (by kernel_rfl) (by kernel_rfl) (by kernel_rfl) (fun _ _ _ h => h) (Or.inl ⟨by rfl, fun V hV => by go_simp; rfl⟩) c1 ?_
      simp only [Act.put]
      refine wpAnyZ_take (fuel := 17) (i := 2) rfl (by kernel_rfl) (by kernel_rfl) (by kernel_rfl) (by kernel_rfl) (fun _ _ _ h => h) (Or.inl ⟨by rfl, fun V hV => by go_simp; rfl⟩) c1 ?_
      simp only [Act.put]
      refine wpAnyZ_take (fuel := 16) (i := 3) rfl (by kernel_rfl) (by kernel_rfl) (by kernel_rfl) (by kernel_rfl) (fun _ _ _ h => h) (Or.inl ⟨by rfl, fun V hV => by go_simp; rfl⟩) c1 ?_
      simp only [Act.put]
      refine wpAnyZ_take (fuel := 15) (i := 4) rfl (by kernel_rfl) (by kernel_rfl) (by kernel_rfl) (by kernel_rfl) (fun _ _ _ h => h) (Or.inl ⟨by rfl, fun V hV => by go_simp; rfl⟩) c1 ?_
      simp only [Act.put]
      refine wpAnyZ_take (fuel := 14) (i := 5) rfl (by kernel_rfl) (by kernel_rfl) (by kernel_rfl) (by kernel_rfl) (fun _ _ _ h => h) (Or.inl ⟨by rfl, fun V hV => by go_simp; rfl⟩) c1 ?_
      simp only [Act.put]
      refine wpAnyZ_take (fuel := 13) (i := 6) rfl (by kernel_rfl) (by kernel_rfl) (by kernel_rfl) (by kernel_rfl) (fun _ _ _ h => h) (Or.inl ⟨by rfl, fun V hV => by go_simp; rfl⟩) c1 ?_
      simp only [Act.put]
      refine wpAnyZ_take (fuel := 12) (i := 7) rfl (by kernel_rfl) (by kernel_rfl) (by kernel_rfl) (by kernel_rfl) (fun _ _ _ h => h) (Or.inl ⟨by rfl, fun V hV => by go_simp; rfl⟩) c1 ?_
      simp only [Act.put]
      refine wpAnyZ_take (fuel := 11) (i := 8) rfl (by kernel_rfl) (by kernel_rfl) (by kernel_rfl) (by kernel_rfl) (fun _ _ _ h => h) (Or.inl ⟨by rfl, fun V hV => by go_simp; rfl⟩) c1 ?_
      simp only [Act.put]
      refine wpAnyZ_take (fuel := 10) (i := 9) rfl (by kernel_rfl) (by kernel_rfl) (by kernel_rfl) (by kernel_rfl) (fun _ _ _ h => h) (Or.inl ⟨by rfl, fun V hV => by go_simp; rfl⟩) c1 ?_
      simp only [Act.put]
      refine wpAnyZ_take (fuel := 9) (i := 10) rfl (by kernel_rfl) (by kernel_rfl) (by kernel_rfl) (by kernel_rfl) (fun _ _ _ h => h) (Or.inl ⟨by rfl, fun V hV => by go_simp; rfl⟩) c1 ?_
      try simp only [Act.put]
      refine wpAnyZ_one (i := 11) (fuel := 8) (by kernel_rfl) rfl (fun K hK => ?_)
      go_simp
      refine (size_any H7.out).mono ?_
      rintro _ w7 ⟨rfl, rfl⟩
      refine hK _ _ (fun _ => c1) ?_
      clear hK K
      try simp only [Act.put, List.setIfInBounds_toArray]
      refine wpAnyZ_one (i := 12) (fuel := 7) (by kernel_rfl) rfl (fun K hK => ?_)
      go_simp
      refine (KP.out _).mono ?_
      rintro _ w7 ⟨rfl, rfl⟩
      refine hK _ _ (fun _ => c1) ?_
      clear hK K
      try simp only [Act.put, List.setIfInBounds_toArray]
      refine wpAnyZ_one (i := 13) (fuel := 6) (by kernel_rfl) rfl (fun K hK => ?_)
      go_simp
      refine hK _ _ (fun _ => c1) ?_
      clear hK K
      try simp only [Act.put, List.setIfInBounds_toArray]
      refine wpAnyZ_one (i := 14) (fuel := 5) (by kernel_rfl) rfl (fun K hK => ?_)
      go_simp
      refine hK _ _ (fun _ => c1) ?_
      clear hK K
      try simp only [Act.put, List.setIfInBounds_toArray]
      refine wpAnyZ_one (i := 15) (fuel := 4) (by kernel_rfl) rfl (fun K hK => ?_)
      go_simp
      refine hK _ _ (fun _ => c2) ?_
      clear hK K
      try simp only [Act.put, List.setIfInBounds_toArray]
      refine wpAnyZ_one (i := 16) (fuel := 3) (by kernel_rfl) rfl (fun K hK => ?_)
      refine app_s rfl (.tmp 21) (.tmp 32) rfl p _ _ _ rfl H8.out.row ⟨w6.heap.size, 0, none⟩ 1 1 [.string x] rfl rfl hcell.out (by simp [Value.oneCell']) (by omega) hp8.out ?_
      intro v' w9 q1 q2 q3
      obtain ⟨z1, z2, z3, z4⟩ := HS.out v' w9 (by rw [hj7.out, sv_app]; exact q1) q2 q3
      have Z8 := Lib.hid z3
      have Z9 := Lib.hid z4
      clear q2 q3 z3 z4
      refine hK _ _ (fun _ => z1) ?_
      clear hK K
      try simp only [Act.put, List.setIfInBounds_toArray]
      refine wpAnyZ_one (i := 17) (fuel := 2) (by kernel_rfl) rfl (fun K hK => ?_)
      go_simp
      refine hK _ _ (fun _ => z1) ?_
      clear hK K
      try simp only [Act.put, List.setIfInBounds_toArray]
      refine wpAnyZ_one (i := 18) (fuel := 1) (by kernel_rfl) rfl (fun K hK => ?_)
      go_simp
      refine hK _ _ (fun _ => z1) ?_
      clear hK K
      try simp only [Act.put, List.setIfInBounds_toArray]
      obtain ⟨A', cap', rfl⟩ := own_form q1
      clear q1
      refine wpAnyZ_one (i := 19) (fuel := 0) (by kernel_rfl) rfl (fun K hK => ?_)
      go_simp
      refine hK _ _ (fun h => by cases h) ?_
      clear hK K
      try simp only [Act.put, List.setIfInBounds_toArray]
      refine wpAnyZ_done (by kernel_rfl) ?_ _
      go_wp2_with fail
      go_ret
      exact ⟨by rw [HB2.out]; rfl, _, by rw [HL.out, HB2.out, HX.out]; exact Z8.out, T8.out.trans Z9.out⟩
    · have HB2 := Lib.hid (show twB l m = false from HB.out.trans (decide_eq_false hm))
      have t0 : decide (m ≤ (l.length : Int)) = true := decide_eq_true (by omega)
      go_enter Try.func20, Try.ntmps20
      go_upto_region 1 with fail
      refine region_in w.heap.size (by kernel_rfl) (by kernel_rfl) ?_
      repeat (go_big_quiet_step (first | (go_at_call 26; with_reducible exact Calls.in_of (Nat.le_refl _) ((KS.out _).mono fun _ _ q => ⟨q.1, by rw [← q.2]; exact Below.refl _ _⟩))))
      refine wpQuiet_nil ?_
      intro w6 hb6
      have L6 := Lib.hid hb6
      clear hb6
      go_wp2_with fail
      go_ret
      exact ⟨by rw [HB2.out]; rfl, v, by rw [HL.out, HB2.out]; exact H.out.next L6.out, Tn.same L6.out⟩
theorem twice_c : TwiceC := fun h i => twice_any h i
end Go.Proofs.Ytlhfijjjfolldaa
