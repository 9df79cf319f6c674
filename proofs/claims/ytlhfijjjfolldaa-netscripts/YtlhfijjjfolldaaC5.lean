/- A call on both nets: whether both tell the same. -/
import Derived.Test.YtlhfijjjfolldaaC4
namespace Go.Proofs.Ytlhfijjjfolldaa
open Go.RowKit Go.Maps

/-- Both nets. -/
structure Pq (w0 w : World) (p r : Nat) (m : Int) (v : Value) (A : Option Addr) (cap : Nat) (la lb : List Str) (ka kb : Int) : Prop where
  a : NtAt w p m v la ka
  b : Rt w r m A cap lb kb
  ap : ∀ ad, A = some ad → v.ownBlock ≠ some ad.block
  low : Below w0.heap.size w0 w
  hp : w0.heap.size ≤ p
  hr : w0.heap.size ≤ r
section
variable {w0 w w' : World} {p r b : Nat} {m ka kb ka' kb' : Int} {v v' : Value} {A A' : Option Addr} {cap cap' : Nat} {la lb la' lb' : List Str} {t : TypeId} {cs : Array Value}
theorem Pq.next (h : Pq w0 w p r m v A cap la lb ka kb) (hb : Below w.heap.size w w') : Pq w0 w' p r m v A cap la lb ka kb := ⟨h.a.next hb, h.b.next hb, h.ap, bmore h.low hb, h.hp, h.hr⟩
/-- A block of another type is none of the program's. -/
theorem NtAt.far (h : NtAt w p m v la ka) (k : Bk w b t cs) (h1 : t ≠ 47) (h2 : t ≠ 9) : ¬ NX p v b := by
  rintro (e | e)
  · exact bk_ne k h.blk h1 e
  · obtain ⟨_, cs', hk⟩ := row_bk h.row e
    exact bk_ne k hk h2 rfl
theorem Pq.left (h : Pq w0 w p r m v A cap la lb ka kb) (n : NtAt w' p m v' la' ka') (t : Tn w w' p v v') : Pq w0 w' p r m v' A cap la' lb ka' kb := by
  have hb : ∀ ad, A = some ad → ¬ NX p v ad.block := fun ad e => by
    obtain ⟨cs, q⟩ := h.b.bk ad e
    rintro (e2 | e2)
    · exact bk_ne q h.a.blk (by decide) e2
    · exact h.ap ad e e2
  refine ⟨n, ⟨t.td.bk h.b.blk (h.a.far h.b.blk (by decide) (by decide)), h.b.at_.kept t.td.size fun ad e hlt => t.td.block _ hlt (hb ad e), fun ad e => Nat.lt_of_lt_of_le (h.b.lt ad e) t.td.size, fun ad e => ?_, h.b.no, h.b.le, h.b.fit, h.b.m1, h.b.m2⟩, fun ad e e2 => ?_, h.low.trans (t.below h.a h.hp), h.hp, h.hr⟩
  · obtain ⟨cs, q⟩ := h.b.bk ad e
    exact ⟨cs, t.td.bk q (hb ad e)⟩
  · rcases t.nw _ e2 with q | q
    · exact h.ap ad e q
    · have := h.b.lt ad e
      omega
theorem Pq.right (h : Pq w0 w p r m v A cap la lb ka kb) (n : Rt w' r m A' cap' lb' kb') (t : Rn w w' r A A') : Pq w0 w' p r m v A' cap' la lb' ka kb' := by
  have hpr : p ≠ r := bk_ne h.a.blk h.b.blk (by decide)
  have td : Td (fun i => i = r) w w' := Td.grown t.grown fun k e => by cases e; rfl
  refine ⟨h.a.td td hpr fun g e e2 => ?_, n, fun ad e e2 => ?_, h.low.trans (td.below (fun i e => e ▸ h.hr) (Nat.le_trans h.hp (Nat.le_of_lt h.a.blk.lt))), h.hp, h.hr⟩
  · obtain ⟨_, cs, hk⟩ := row_bk h.a.row e
    exact bk_ne hk h.b.blk (by decide) e2
  · rcases t.nw with rfl | q
    · exact h.ap ad e e2
    · have h1 := q ad e
      have h2 := (h.a.row.lt _ e2).2
      omega
theorem Pq.box_left (h : Pq w0 w p r m v A cap la lb ka kb) (k : Bk w b t cs) (h1 : t ≠ 47) (h2 : t ≠ 9) (tn : Tn w w' p v v') : Bk w' b t cs := tn.td.bk k (h.a.far k h1 h2)
theorem Pq.box_right (h : Pq w0 w p r m v A cap la lb ka kb) (k : Bk w b t cs) (h1 : t ≠ 36) (tn : Rn w w' r A A') : Bk w' b t cs :=
  (tn.grown.block b k.lt (by
    have := bk_ne k h.b.blk h1
    simpa using this)).trans k
end
/-- What a call on both leaves. -/
def Dd (w0 w' : World) (p r : Nat) (m k : Int) : Prop := ∃ (v' : Value) (A' : Option Addr) (cap' : Nat) (l' : List Str) (k' : Int), Pq w0 w' p r m v' A' cap' l' l' k' k' ∧ 0 ≤ k' ∧ k' ≤ k + 51
theorem drK_le (l : List Str) (k : Int) (h : 0 ≤ k) : 0 ≤ drK l k ∧ drK l k ≤ k + 51 := by
  unfold drK
  split <;> omega
set_option maxRecDepth 100000 in
set_option maxHeartbeats 8000000 in
theorem does_any (HT : TwiceC) {w0 w : World} {p r : Nat} {m k : Int} {v : Value} {A : Option Addr} {cap : Nat} {l : List Str} (h : Pq w0 w p r m v A cap l l k k) (o : Oq) (ho : Tl w0 o.A o.zs.length o.cap o.zs) (h50 : o.zs.length ≤ 50) (k0 : 0 ≤ k) (k1 : k ≤ 1000000) :
    Calls Try.prog 12 #[.pointer (some ⟨p, 0, none⟩), .pointer (some ⟨r, 0, none⟩), .agg o.cs] w fun e w' => e = .returned (.bool true) ∧ Dd w0 w' p r m k := by
  have KT : Hid TwiceC := HT
  clear HT
  have low := below_alloc w (.cells o.cs 32)
  have KB := Lib.hid (Bk.new w 32 o.cs)
  have P2 := Lib.hid (h.next low)
  have TL := Lib.hid (ho.next P2.out.low)
  have T0 := Lib.hid ho
  obtain ⟨b, hb⟩ : ∃ b, b = w.heap.size := ⟨_, rfl⟩
  rw [← hb] at KB
  obtain ⟨od, oA, ocap, ozs, oi⟩ := o
  dsimp only at TL h50 T0
  clear ho
  have c0 := KB.out.cell 0 _ rfl
  have c1 := KB.out.cell 1 _ rfl
  have c2 := KB.out.cell 2 _ rfl
  have hcap := TL.out.le
  have P2k := P2.out.a.len
  have HR : Hid (∀ ad, oA = some ad → ad.block ≠ r ∨ ozs = []) := Lib.hid (fun ad e => by
    rcases T0.out.at_ with q | ⟨ad', e', q, _⟩
    · exact .inr q
    · rw [e] at e'
      cases e'
      exact .inl (by have := P2.out.hr; omega))
  clear h low
  by_cases d0 : od = 0
  · have t0 : (od == 0) = true := by simpa using d0
    clear d0
    go_enter Try.func12, Try.ntmps12
    go_wp2_with fail
    rw [← hb]
    generalize w.alloc (.cells #[.int .i64 od, .slice oA ozs.length ocap, .int .i64 oi] 32) = w2 at *
    have s0 : w2.drew.cell? ⟨b, 1, none⟩ = some (.slice oA ozs.length ocap) := c1
    replace P2 := Lib.hid (P2.out.next (Below.refl _ _).drew)
    replace KB := Lib.hid KB.out.drew
    replace TL := Lib.hid (TL.out.next (Below.refl _ _).drew)
    have hle : ldN l m ozs ≤ ozs.length := Nat.min_le_left _ _
    clear c0 c1 c2 hb
    refine wp_region_z (fun W => W.cell? ⟨b, 1, none⟩ = some (.slice oA ozs.length ocap)) (fun _ => false) (by kernel_rfl) ?_
    refine wpAnyZ_take (fuel := 9) (i := 0) rfl (by kernel_rfl) (by kernel_rfl) (by kernel_rfl) (by kernel_rfl) (fun _ _ _ h => h) (Or.inl ⟨by rfl, fun V hV => by go_simp; rfl⟩) s0 ?_
    try simp only [Act.put, List.setIfInBounds_toArray]
    refine wpAnyZ_take (fuel := 8) (i := 1) rfl (by kernel_rfl) (by kernel_rfl) (by kernel_rfl) (by kernel_rfl) (fun _ _ _ h => h) (Or.inl ⟨by rfl, fun V hV => by go_simp; rfl⟩) s0 ?_
    try simp only [Act.put]
    refine wpAnyZ_take (fuel := 7) (i := 2) rfl (by kernel_rfl) (by kernel_rfl) (by kernel_rfl) (by kernel_rfl) (fun _ _ _ h => h) (Or.inl ⟨by rfl, fun V hV => by go_simp; rfl⟩) s0 ?_
    try simp only [Act.put]
    refine wpAnyZ_take (fuel := 6) (i := 4) rfl (by kernel_rfl) (by kernel_rfl) (by kernel_rfl) (by kernel_rfl) (fun _ _ _ h => h) (Or.inl ⟨by rfl, fun V hV => by go_simp; rfl⟩) s0 ?_
    try simp only [Act.put]
    refine wpAnyZ_take (fuel := 5) (i := 5) rfl (by kernel_rfl) (by kernel_rfl) (by kernel_rfl) (by kernel_rfl) (fun _ _ _ h => h) (Or.inl ⟨by rfl, fun V hV => by go_simp; rfl⟩) s0 ?_
    try simp only [Act.put]
    refine wpAnyZ_take (fuel := 4) (i := 6) rfl (by kernel_rfl) (by kernel_rfl) (by kernel_rfl) (by kernel_rfl) (fun _ _ _ h => h) (Or.inl ⟨by rfl, fun V hV => by go_simp; rfl⟩) s0 ?_
    try simp only [Act.put]
    refine wpAnyZ_one (i := 3) (fuel := 3) (by kernel_rfl) rfl (fun K hK => ?_)
    go_simp
    refine (send_any P2.out.a oA ozs.length ocap ozs TL.out.at_ rfl (by omega) TL.out.le TL.out.no (by omega) (by omega)).mono ?_
    rintro _ w3 ⟨rfl, v3, n3, t3⟩
    have P3 := Lib.hid (P2.out.left n3 t3)
    have k3 := P2.out.box_left KB.out (by decide) (by decide) t3
    clear n3 t3
    refine hK _ _ (fun _ => k3.cell 1 _ rfl) ?_
    clear hK K
    try simp only [Act.put, List.setIfInBounds_toArray]
    refine wpAnyZ_one (i := 7) (fuel := 2) (by kernel_rfl) rfl (fun K hK => ?_)
    go_simp
    refine (rsend_any P3.out.b oA ozs.length ocap ozs (T0.out.next P3.out.low) (by omega) HR.out (by omega) (by omega)).mono ?_
    rintro _ w4 ⟨rfl, A4, cap4, n4, t4⟩
    have P4 := Lib.hid (P3.out.right n4 t4)
    have k4 := P3.out.box_right k3 (by decide) t4
    have s4 := k4.cell 1 _ rfl
    clear n4 t4
    refine hK _ _ (fun _ => s4) ?_
    clear hK K
    try simp only [Act.put, List.setIfInBounds_toArray]
    refine wpAnyZ_one (i := 8) (fuel := 1) (by kernel_rfl) rfl (fun K hK => ?_)
    go_simp
    refine hK _ _ (fun _ => s4) ?_
    clear hK K
    try simp only [Act.put, List.setIfInBounds_toArray]
    refine wpAnyZ_one (i := 9) (fuel := 0) (by kernel_rfl) rfl (fun K hK => ?_)
    go_simp
    refine hK _ _ (fun _ => s4) ?_
    clear hK K
    try simp only [Act.put, List.setIfInBounds_toArray]
    refine wpAnyZ_done (by kernel_rfl) ?_ _
    go_wp2_with fail
    go_ret
    exact ⟨rfl, _, _, _, _, _, P4.out, by omega, by omega⟩
  have t0 : (od == 0) = false := by simpa using d0
  by_cases d1 : od = 1
  · have t1 : (od == 1) = true := by simpa using d1
    clear d0 d1
    have t9 := str_eq (tkS l oi)
    go_enter Try.func12, Try.ntmps12
    go_wp2_with fail
    rw [← hb]
    clear hb
    refine (take_any P2.out.a oi).mono ?_
    rintro _ w3 ⟨rfl, v3, n3, t3⟩
    have P3 := Lib.hid (P2.out.left n3 t3)
    have k3 := P2.out.box_left KB.out (by decide) (by decide) t3
    have c2 := k3.cell 2 _ rfl
    clear n3 t3
    go_wp2_with fail
    refine (rtake_any P3.out.b oi).mono ?_
    rintro _ w4 ⟨rfl, A4, cap4, n4, t4⟩
    have P4 := Lib.hid (P3.out.right n4 t4)
    clear n4 t4
    generalize tkS l oi = sx at *
    generalize (!l.isEmpty) = bx at *
    have t8 : (bx == bx) = true := by simp
    go_wp2_with fail
    go_ret
    exact ⟨rfl, _, _, _, _, _, P4.out, by omega, by omega⟩
  have t1 : (od == 1) = false := by simpa using d1
  by_cases d2 : od = 2
  · have t2 : (od == 2) = true := by simpa using d2
    clear d0 d1 d2
    have HK := Lib.hid (drK_le l k k0)
    have t8 : ((!l.isEmpty) == (!l.isEmpty)) = true := by simp
    generalize hbx : (!l.isEmpty) = bx at *
    have HBX := Lib.hid hbx
    clear hbx
    go_enter Try.func12, Try.ntmps12
    go_wp2_with fail
    rw [← hb]
    generalize w.alloc (.cells #[.int .i64 od, .slice oA ozs.length ocap, .int .i64 oi] 32) = w2 at *
    have s0 : w2.drew.cell? ⟨b, 2, none⟩ = some (.int .i64 oi) := c2
    replace P2 := Lib.hid (P2.out.next (Below.refl _ _).drew)
    replace KB := Lib.hid KB.out.drew
    have KD := Lib.hid (drop_any P2.out.a oi k0 (by omega))
    have KE := Lib.hid (fun w3 v3 k3 l3 (q : Pq w0 w3 p r m v3 A cap l3 l k3 k) => rdrop_any q.b oi k0 (by omega))
    rw [HBX.out] at KD KE
    clear c0 c1 c2 hb
    refine wp_region_z (fun W => W.cell? ⟨b, 2, none⟩ = some (.int .i64 oi)) (fun _ => false) (by kernel_rfl) ?_
    refine wpAnyZ_take (fuel := 9) (i := 0) rfl (by kernel_rfl) (by kernel_rfl) (by kernel_rfl) (by kernel_rfl) (fun _ _ _ h => h) (Or.inl ⟨by rfl, fun V hV => by go_simp; rfl⟩) s0 ?_
    try simp only [Act.put, List.setIfInBounds_toArray]
    refine wpAnyZ_take (fuel := 8) (i := 1) rfl (by kernel_rfl) (by kernel_rfl) (by kernel_rfl) (by kernel_rfl) (fun _ _ _ h => h) (Or.inl ⟨by rfl, fun V hV => by go_simp; rfl⟩) s0 ?_
    try simp only [Act.put]
    refine wpAnyZ_take (fuel := 7) (i := 2) rfl (by kernel_rfl) (by kernel_rfl) (by kernel_rfl) (by kernel_rfl) (fun _ _ _ h => h) (Or.inl ⟨by rfl, fun V hV => by go_simp; rfl⟩) s0 ?_
    try simp only [Act.put]
    refine wpAnyZ_take (fuel := 6) (i := 4) rfl (by kernel_rfl) (by kernel_rfl) (by kernel_rfl) (by kernel_rfl) (fun _ _ _ h => h) (Or.inl ⟨by rfl, fun V hV => by go_simp; rfl⟩) s0 ?_
    try simp only [Act.put]
    refine wpAnyZ_take (fuel := 5) (i := 5) rfl (by kernel_rfl) (by kernel_rfl) (by kernel_rfl) (by kernel_rfl) (fun _ _ _ h => h) (Or.inl ⟨by rfl, fun V hV => by go_simp; rfl⟩) s0 ?_
    try simp only [Act.put]
    refine wpAnyZ_take (fuel := 4) (i := 6) rfl (by kernel_rfl) (by kernel_rfl) (by kernel_rfl) (by kernel_rfl) (fun _ _ _ h => h) (Or.inl ⟨by rfl, fun V hV => by go_simp; rfl⟩) s0 ?_
    try simp only [Act.put]
    refine wpAnyZ_one (i := 3) (fuel := 3) (by kernel_rfl) rfl (fun K hK => ?_)
    go_simp
    refine (KD.out).mono ?_
    rintro _ w3 ⟨rfl, v3, n3, t3⟩
    have P3 := Lib.hid (P2.out.left n3 t3)
    have k3 := P2.out.box_left KB.out (by decide) (by decide) t3
    clear n3 t3
    refine hK _ _ (fun _ => k3.cell 2 _ rfl) ?_
    clear hK K
    try simp only [Act.put, List.setIfInBounds_toArray]
    refine wpAnyZ_one (i := 7) (fuel := 2) (by kernel_rfl) rfl (fun K hK => ?_)
    go_simp
    refine (KE.out _ _ _ _ P3.out).mono ?_
    rintro _ w4 ⟨rfl, A4, cap4, n4, t4⟩
    have P4 := Lib.hid (P3.out.right n4 t4)
    have k4 := P3.out.box_right k3 (by decide) t4
    have s4 := k4.cell 2 _ rfl
    clear n4 t4
    refine hK _ _ (fun _ => s4) ?_
    clear hK K
    try simp only [Act.put, List.setIfInBounds_toArray]
    refine wpAnyZ_one (i := 8) (fuel := 1) (by kernel_rfl) rfl (fun K hK => ?_)
    go_simp
    refine hK _ _ (fun _ => s4) ?_
    clear hK K
    try simp only [Act.put, List.setIfInBounds_toArray]
    refine wpAnyZ_one (i := 9) (fuel := 0) (by kernel_rfl) rfl (fun K hK => ?_)
    go_simp
    refine hK _ _ (fun _ => s4) ?_
    clear hK K
    try simp only [Act.put, List.setIfInBounds_toArray]
    refine wpAnyZ_done (by kernel_rfl) ?_ _
    go_wp2_with fail
    go_ret
    exact ⟨rfl, _, _, _, _, _, P4.out, HK.out.1, HK.out.2⟩
  have t2 : (od == 2) = false := by simpa using d2
  by_cases d3 : od = 3
  · have t3 : (od == 3) = true := by simpa using d3
    clear d0 d1 d2 d3
    have t8 : (twB l m == twB l m) = true := by simp
    generalize hbx : twB l m = bx at *
    have HBX := Lib.hid hbx
    clear hbx
    go_enter Try.func12, Try.ntmps12
    go_wp2_with fail
    rw [← hb]
    generalize w.alloc (.cells #[.int .i64 od, .slice oA ozs.length ocap, .int .i64 oi] 32) = w2 at *
    have s0 : w2.drew.cell? ⟨b, 2, none⟩ = some (.int .i64 oi) := c2
    replace P2 := Lib.hid (P2.out.next (Below.refl _ _).drew)
    replace KB := Lib.hid KB.out.drew
    have KD := Lib.hid (KT.out P2.out.a oi)
    have KE := Lib.hid (fun w3 v3 k3 l3 (q : Pq w0 w3 p r m v3 A cap l3 l k3 k) => rtwice_any q.b oi)
    rw [HBX.out] at KD KE
    clear c0 c1 c2 hb
    refine wp_region_z (fun W => W.cell? ⟨b, 2, none⟩ = some (.int .i64 oi)) (fun _ => false) (by kernel_rfl) ?_
    refine wpAnyZ_take (fuel := 9) (i := 0) rfl (by kernel_rfl) (by kernel_rfl) (by kernel_rfl) (by kernel_rfl) (fun _ _ _ h => h) (Or.inl ⟨by rfl, fun V hV => by go_simp; rfl⟩) s0 ?_
    try simp only [Act.put, List.setIfInBounds_toArray]
    refine wpAnyZ_take (fuel := 8) (i := 1) rfl (by kernel_rfl) (by kernel_rfl) (by kernel_rfl) (by kernel_rfl) (fun _ _ _ h => h) (Or.inl ⟨by rfl, fun V hV => by go_simp; rfl⟩) s0 ?_
    try simp only [Act.put]
    refine wpAnyZ_take (fuel := 7) (i := 2) rfl (by kernel_rfl) (by kernel_rfl) (by kernel_rfl) (by kernel_rfl) (fun _ _ _ h => h) (Or.inl ⟨by rfl, fun V hV => by go_simp; rfl⟩) s0 ?_
    try simp only [Act.put]
    refine wpAnyZ_take (fuel := 6) (i := 4) rfl (by kernel_rfl) (by kernel_rfl) (by kernel_rfl) (by kernel_rfl) (fun _ _ _ h => h) (Or.inl ⟨by rfl, fun V hV => by go_simp; rfl⟩) s0 ?_
    try simp only [Act.put]
    refine wpAnyZ_take (fuel := 5) (i := 5) rfl (by kernel_rfl) (by kernel_rfl) (by kernel_rfl) (by kernel_rfl) (fun _ _ _ h => h) (Or.inl ⟨by rfl, fun V hV => by go_simp; rfl⟩) s0 ?_
    try simp only [Act.put]
    refine wpAnyZ_take (fuel := 4) (i := 6) rfl (by kernel_rfl) (by kernel_rfl) (by kernel_rfl) (by kernel_rfl) (fun _ _ _ h => h) (Or.inl ⟨by rfl, fun V hV => by go_simp; rfl⟩) s0 ?_
    try simp only [Act.put]
    refine wpAnyZ_one (i := 3) (fuel := 3) (by kernel_rfl) rfl (fun K hK => ?_)
    go_simp
    refine (KD.out).mono ?_
    rintro _ w3 ⟨rfl, v3, n3, t3⟩
    have P3 := Lib.hid (P2.out.left n3 t3)
    have k3 := P2.out.box_left KB.out (by decide) (by decide) t3
    clear n3 t3
    refine hK _ _ (fun _ => k3.cell 2 _ rfl) ?_
    clear hK K
    try simp only [Act.put, List.setIfInBounds_toArray]
    refine wpAnyZ_one (i := 7) (fuel := 2) (by kernel_rfl) rfl (fun K hK => ?_)
    go_simp
    refine (KE.out _ _ _ _ P3.out).mono ?_
    rintro _ w4 ⟨rfl, A4, cap4, n4, t4⟩
    have P4 := Lib.hid (P3.out.right n4 t4)
    have k4 := P3.out.box_right k3 (by decide) t4
    have s4 := k4.cell 2 _ rfl
    clear n4 t4
    refine hK _ _ (fun _ => s4) ?_
    clear hK K
    try simp only [Act.put, List.setIfInBounds_toArray]
    refine wpAnyZ_one (i := 8) (fuel := 1) (by kernel_rfl) rfl (fun K hK => ?_)
    go_simp
    refine hK _ _ (fun _ => s4) ?_
    clear hK K
    try simp only [Act.put, List.setIfInBounds_toArray]
    refine wpAnyZ_one (i := 9) (fuel := 0) (by kernel_rfl) rfl (fun K hK => ?_)
    go_simp
    refine hK _ _ (fun _ => s4) ?_
    clear hK K
    try simp only [Act.put, List.setIfInBounds_toArray]
    refine wpAnyZ_done (by kernel_rfl) ?_ _
    go_wp2_with fail
    go_ret
    exact ⟨rfl, _, _, _, _, _, P4.out, by omega, by omega⟩
  · have t3 : (od == 3) = false := by simpa using d3
    clear d0 d1 d2 d3
    go_enter Try.func12, Try.ntmps12
    go_wp2_with fail
    go_ret
    exact ⟨rfl, _, _, _, _, _, P2.out, by omega, by omega⟩
end Go.Proofs.Ytlhfijjjfolldaa
