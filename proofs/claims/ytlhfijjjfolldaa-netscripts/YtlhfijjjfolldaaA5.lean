/- Nets: Drop, Twice, Send, List. -/
import Derived.Test.YtlhfijjjfolldaaA4
namespace Go.Proofs.Ytlhfijjjfolldaa
open Go.RowKit Go.Maps

/-- A class of worlds: whatever lies below B is as in w. -/
structure In (B : Nat) (w : World) where
  val : World
  ok : Below B w val
/-- A region that draws its order, whose own operations only read, and whose callees leave what lies below B: one walk. -/
theorem region_in {P : Program} {id : Nat} {Q : Exit → Act → World → Prop} {a : Act} {w : World} {l : List Oper} (B : Nat) (hm : P.follows .mixedOrders = true) (hB : Region.lexB .any l.toArray = true)
    (h : wpQuiet P l.toArray (fun w' => ∃ n : In B w, w' = n.val) (fun a' => ∀ w', Below B w w' → Q .normal a' w') l a) : (Code.region id l.toArray true).wp P Q a w := by
  refine wp_region_quiet (C := fun w' => ∃ n : In B w, w' = n.val) hm hB ⟨⟨_, (Below.refl B w).drew⟩, rfl⟩ ?_
  have e : (fun a' : Act => ∀ w', (∃ n : In B w, w' = n.val) → Q .normal a' w') = fun a' : Act => ∀ w', Below B w w' → Q .normal a' w' := by
    funext a'
    apply propext
    constructor
    · intro h w' hb; exact h w' ⟨⟨w', hb⟩, rfl⟩
    · rintro h w' ⟨n, rfl⟩; exact h _ n.ok
  rw [e]
  simpa using h
theorem In.cell {B : Nat} {w : World} {p : Addr} {v : Value} (hp : p.block < B) (h : w.cell? p = some v) (n : In B w) : n.val.cell? p = some v := (n.ok.cell hp).trans h
/-- A callee's contract in a world of the class. -/
theorem Calls.in_of {P : Program} {f : FuncId} {args : Array Value} {B : Nat} {w : World} {n : In B w} {v : Value} (hB : B ≤ w.heap.size)
    (h : Calls P f args n.val fun e w' => e = .returned v ∧ Below n.val.heap.size n.val w') : Calls P f args n.val fun e w'' => e = .returned v ∧ ∃ m : In B w, w'' = m.val :=
  h.mono fun _ w' ⟨he, hm⟩ => ⟨he, ⟨w', n.ok.trans (hm.mono (Nat.le_trans hB n.ok.size))⟩, rfl⟩

theorem inNonempty (B : Nat) (w : World) : Nonempty (In B w) := ⟨⟨w, Below.refl _ _⟩⟩
theorem NtAt.lost {w : World} {p : Nat} {m k : Int} {v : Value} {l : List Str} (h : NtAt w p m v l k) (k' : Int) :
    NtAt (w.setCell ⟨p, 2, none⟩ (.int .i64 k')) p m v l k' ∧ Tn w (w.setCell ⟨p, 2, none⟩ (.int .i64 k')) p v v := by
  refine ⟨⟨h.blk.set 2 (.int .i64 k'), row_kept h.row fun g e => Below.heap_setCell _ _ _ _ ?_, h.fit, h.m1, h.m2⟩, ⟨Td.set _ (.inl rfl) _, fun _ e => .inl e⟩⟩
  rintro rfl
  exact h.ne e
def drK (l : List Str) (k : Int) : Int := if l.isEmpty then k else k + 1
set_option maxRecDepth 100000 in
set_option maxHeartbeats 1000000 in
theorem drop_any {w : World} {p : Nat} {m k : Int} {v : Value} {l : List Str} (h : NtAt w p m v l k) (i : Int) (k0 : 0 ≤ k) (k1 : k ≤ 1000000000) :
    Calls Try.prog 19 #[.pointer (some ⟨p, 0, none⟩), .int .i64 i] w fun e w' => e = .returned (.bool (!l.isEmpty)) ∧ ∃ v', NtAt w' p m v' (tkL l i) (drK l k) ∧ Tn w w' p v v' := by
  have KT := Lib.hid (take_any h i)
  have HD := Lib.hid (show drK l k = if l.isEmpty then k else k + 1 from rfl)
  clear h
  generalize l.isEmpty = b at *
  go_enter Try.func19, Try.ntmps19
  go_wp2_with fail
  refine KT.out.mono ?_
  rintro _ w1 ⟨rfl, v', q1, q2⟩
  cases b
  · have c2 := q1.blk.cell 2 _ rfl
    have f2 := q1.blk.frozen 2
    have Q := Lib.hid (q1.lost (k + 1))
    have Q2 := Lib.hid q2
    clear q1 q2 KT
    go_wp2_with fail
    go_ret
    exact ⟨rfl, v', by rw [HD.out]; exact Q.out.1, Q2.out.trans Q.out.2⟩
  · have Q := Lib.hid q1
    have Q2 := Lib.hid q2
    clear q1 q2 KT
    go_wp2_with fail
    go_ret
    exact ⟨rfl, v', by rw [HD.out]; exact Q.out, Q2.out⟩
/-- An append of texts, inside a region that draws. -/
theorem app_s {ops : Array Oper} {o : Oper} {a : Act} {w : World} {K : Act → World → Prop} {Q : Exit → Act → World → Prop} {E : Prop} (hgd : o.guard = none) (s y : Operand)
    (ho : o.op = .call { callee := .builtin .append, args := #[s, y], argTypes := #[30, 30] }) (B n : Nat) (v : Value) (xs : List Value) (hs : a.eval s = v) (hown : w.ownsRow B 9 1 v n xs)
    (src : Addr) (cnt c : Nat) (ys : List Value) (hx : a.eval y = .slice (some src) cnt c) (hlen : ys.length = cnt) (hcells : ∀ k u, ys[k]? = some u → w.cell? (src.add k) = some u) (hone : ∀ u ∈ ys, u.oneCell' = true) (hm : n + cnt ≤ 100000) (hB : B ≤ w.heap.size)
    (h : ∀ v' w', w'.ownsRow B 9 1 v' (n + cnt) (xs ++ ys) → w.grownBy w' v.ownBlock → (∀ g, v'.ownBlock = some g → v.ownBlock = some g ∨ w.heap.size ≤ g) → K (a.put o.dst v') w') : if Region.wanted o (yielded ops a.tmps) = true then Oper.wp Try.prog o a w K Q else E := by
  have hw : Region.wanted o (yielded ops a.tmps) = true := by simp [Region.wanted, hgd]
  rw [if_pos hw]
  obtain ⟨i, hi, hz0, hz1, hz2⟩ := info_parts info9
  obtain ⟨v', w', hr, h2, h3, _, h5⟩ := run_append_own_at (P := Try.prog) w B 30 o.type 9 i _ 1 16 Try.underlying30 hi hz0 hz1 hz2 rfl (by decide) v n xs hown src cnt c ys (by rw [hlen, Nat.mul_one]) hcells hone (by unfold maxLen; omega) (by omega) hB
  unfold Oper.wp execOp
  simp only [ho, resolve, invoke, builtin, Sem.run_bind, Sem.run_pure, Result.andThen_ok, List.map_toArray, List.map_cons, List.map_nil, hs, hx, hr]
  refine h v' w' h2 h3 fun g e => ?_
  rcases h5 with q | q
  · exact .inl (q ▸ e)
  · rw [e] at q
    cases q
    exact .inr (Nat.le_refl _)
/-- An append of nothing. -/
theorem app_0 {ops : Array Oper} {o : Oper} {a : Act} {w : World} {K : Act → World → Prop} {Q : Exit → Act → World → Prop} {E : Prop} (hgd : o.guard = none) (s y : Operand)
    (ho : o.op = .call { callee := .builtin .append, args := #[s, y], argTypes := #[30, 30] }) (B n : Nat) (v : Value) (xs : List Value) (hs : a.eval s = v) (hown : w.ownsRow B 9 1 v n xs)
    (hx : a.eval y = .slice none 0 0) (h : K (a.put o.dst v) w) : if Region.wanted o (yielded ops a.tmps) = true then Oper.wp Try.prog o a w K Q else E := by
  have hw : Region.wanted o (yielded ops a.tmps) = true := by simp [Region.wanted, hgd]
  rw [if_pos hw]
  obtain ⟨i, hi, hz0, hz1, hz2⟩ := info_parts info9
  have hr := run_append_owned_none (P := Try.prog) (w := w) B 30 o.type 9 i 1 Try.underlying30 hi v n xs hown
  unfold Oper.wp execOp
  simp only [ho, resolve, invoke, builtin, Sem.run_bind, Sem.run_pure, Result.andThen_ok, List.map_toArray, List.map_cons, List.map_nil, hs, hx, hr]
  exact h
/-- How many are laid. -/
def ldN (l : List Str) (m : Int) (zs : List Str) : Nat := min zs.length (m.toNat - l.length)
set_option maxRecDepth 100000 in
set_option maxHeartbeats 2000000 in
theorem send_any {w : World} {p : Nat} {m k : Int} {v : Value} {l : List Str} (h : NtAt w p m v l k) (A : Option Addr) (n cap : Nat) (zs : List Str) (hz : StrsAt w A zs) (hn : zs.length = n) (hl : n ≤ 1000) (hnc : n ≤ cap) (hA : A = none → cap = 0) (k0 : 0 ≤ k) (k1 : k ≤ 1000000000) :
    Calls Try.prog 16 #[.pointer (some ⟨p, 0, none⟩), .slice A n cap] w fun e w' => e = .returned (.int .i64 (ldN l m zs : Nat)) ∧ ∃ v', NtAt w' p m v' (l ++ zs.take (ldN l m zs)) (k + (zs.length - ldN l m zs : Nat)) ∧ Tn w w' p v v' := by
  obtain ⟨i0, hi0, hz0, hz1, hz2⟩ := info_parts info9
  have hfit := h.fit
  have hm1 := h.m1
  have hm2 := h.m2
  obtain ⟨Av, cv, rfl⟩ := own_form h.row
  have c0 := h.blk.cell 0 _ rfl
  have c1 := h.blk.cell 1 _ rfl
  obtain ⟨d, hd⟩ : ∃ d, d = ldN l m zs := ⟨_, rfl⟩
  have hd2 : d = min n (m.toNat - l.length) := by rw [hd, ldN, hn]
  obtain ⟨q, hq⟩ : ∃ q : Nat, q = m.toNat - l.length := ⟨_, rfl⟩
  have hqw : IntKind.i64.wrap (m - (l.length : Int)) = (q : Int) := (IntWalk.i64_in _ (by omega)).trans (by omega)
  have hdn : d ≤ n := by omega
  have hlen := h.len
  have hdm : ((l ++ zs.take d).length : Int) ≤ m := by
    rw [List.length_append, List.length_take]
    omega
  rw [← hd]
  have hl9 : (zs.take d).length = d := by rw [List.length_take]; omega
  have hrest : zs.length - d = n - d := by omega
  rw [hrest]
  have hkk : ((n - d : Nat) : Int) = (n : Int) - (d : Int) := by omega
  have HK := Lib.hid hkk
  have LEN := Lib.hid (show (l ++ zs.take d).length = l.length + d by rw [List.length_append, hl9])
  have H := Lib.hid h
  have HZ := Lib.hid (hz.take d)
  have HDM := Lib.hid hdm
  have L9 := Lib.hid hl9
  have HSC := Lib.hid hA
  have HQ : Hid ((q < n ∧ d = q) ∨ (n ≤ q ∧ d = n)) := by
    show _ ∨ _
    omega
  generalize hzt : zs.take d = ys at *
  clear hd hd2 h hz hn hzt hdm hl9 hrest hkk hfit hq hA
  go_enter Try.func16, Try.ntmps16
  go_wp2_with fail
  refine region_still (by kernel_rfl) (by kernel_rfl) (fun w2 hw2 => ?_)
  have B2 : Hid (Below w.heap.size w w2) := below_hid (Below.refl _ _) hw2
  have H2 := Lib.hid (H.out.next B2.out)
  have Z2 := Lib.hid (HZ.out.next B2.out)
  replace c0 := H2.out.blk.cell 0 _ rfl
  replace c1 := H2.out.blk.cell 1 _ rfl
  have hd4 : (if q < n then (q : Int) else (n : Int)) = (d : Int) := by
    rcases HQ.out with ⟨e1, e2⟩ | ⟨e1, e2⟩
    · rw [if_pos e1, e2]
    · rw [if_neg (by omega), e2]
  clear hw2
  repeat still_step
  refine wpStill_nil ?_
  clear c0 c1 hd4 hqw
  have T3 := Lib.hid ((Tn.same (p := p) (v := .slice Av l.length cv) B2.out).trans (Tn.same (Below.refl _ _).drew))
  have H3 := Lib.hid (H2.out.next (Below.refl _ _).drew)
  have Z3 := Lib.hid (Z2.out.next (Below.refl _ _).drew)
  have c1 := H3.out.blk.cell 1 _ rfl
  have hp2 := Lib.hid (show p ≤ w2.drew.heap.size from by have := H3.out.blk.lt; omega)
  have HS := Lib.hid (fun v' w1 q1 q2 q3 => H3.out.store (v' := v') (l' := l ++ ys) (w1 := w1) q2 q1 HDM.out q3)
  have hdc : d ≤ cap := by omega
  rcases A with _ | ad
  · obtain rfl : cap = 0 := HSC.out rfl
    obtain rfl : n = 0 := by omega
    obtain rfl : d = 0 := by omega
    have e0 : ys = [] := List.length_eq_zero_iff.1 L9.out
    have HS4 := Lib.hid (HS.out (.slice Av l.length cv) w2.drew (by rw [e0, List.append_nil]; exact H3.out.row) ⟨rfl, rfl, rfl, Nat.le_refl _, fun _ _ _ => rfl⟩ (fun g e => .inl e))
    go_wp2_with fail
    go_region_law (first | (refine app_0 rfl (.tmp 25) (.tmp 28) rfl p _ _ _ rfl H3.out.row rfl ?_; clear HS c1 H2 Z2 B2; generalize w2.drew = w4 at *; obtain ⟨z1, z2, z3, z4⟩ := HS4.out; have z5 := z3.blk.cell 2 _ rfl; have z6 := z3.blk.frozen 2; have Z8 := Lib.hid z3; have Z9 := Lib.hid z4; clear z3 z4 HS4))
    all_goals
      go_wp2_with fail
      go_ret
      refine ⟨rfl, _, ?_, T3.out.trans (Z9.out.trans (Z8.out.lost _).2)⟩
      rw [show k + ((0 - 0 : Nat) : Int) = k from by simp]
      exact (Z8.out.lost _).1
  · go_wp2_with fail
    go_region_law (first | (refine app_s rfl (.tmp 25) (.tmp 28) rfl p _ _ _ rfl H3.out.row ad d cap (sv ys) rfl (by rw [sv_len]; exact L9.out) Z3.out.cells (sv_ones _) (by omega) hp2.out ?_; intro v' w4 q1 q2 q3; obtain ⟨z1, z2, z3, z4⟩ := HS.out v' w4 (by rw [LEN.out, sv_app]; exact q1) q2 q3; have z5 := z3.blk.cell 2 _ rfl; have z6 := z3.blk.frozen 2; have Z8 := Lib.hid z3; have Z9 := Lib.hid z4; obtain ⟨A', cap', rfl⟩ := own_form q1; clear q1 q2 q3 z3 z4))
    all_goals
      go_wp2_with fail
      go_ret
      refine ⟨rfl, _, ?_, T3.out.trans (Z9.out.trans (Z8.out.lost _).2)⟩
      rw [HK.out]
      exact (Z8.out.lost _).1
end Go.Proofs.Ytlhfijjjfolldaa
