/- The law ReplayScripts, walked. -/
import Derived.Test.YtiokpflciagdoaaT6
import Derived.Test.YtiokpflciagdoaaO0
namespace Go.Proofs.Ytiokpflciagdoaa
open Go.RowKit Go.Maps

theorem Both.next {V V' : World} {p bk bt q : Nat} {most : Int} (h : Both V p bk bt q most) (hb : Below V.heap.size V V') : Both V' p bk bt q most := by
  obtain ⟨L, T, sl, sb, CL, hC, hR, hS, hL, hT⟩ := h
  exact ⟨L, T, sl, sb, CL, hC.next hb, hR.next hb, hS, hL, hT⟩
theorem Both.drew {V : World} {p bk bt q : Nat} {most : Int} (h : Both V p bk bt q most) : Both V.drew p bk bt q most := by
  obtain ⟨L, T, sl, sb, CL, hC, hR, hS, hL, hT⟩ := h
  exact ⟨L, T, sl, sb, CL, hC.hid (w' := V.drew) rfl, hR.hid (V' := V.drew) rfl, hS, hL, hT⟩
/-- Behind does: both caches, and the call's box. -/
structure Sl (w V : World) (g p bk bt q : Nat) (cs : Array Value) (most : Int) (L : List (Pl × Int)) (T : List (Jb × Int)) (sl sb : Value) (CL : List Cr) : Prop where
  box : Bk V g 33 cs
  cache : CacheAt V p bk bt most L T
  ref : RefAt V q most sl sb CL T
  low : Below w.heap.size w V
  same : SameL CL L
  len : (L.length : Int) ≤ most ∧ T.length ≤ 64 ∧ most ≤ 64
section
variable {w V V' : World} {g p bk bt q : Nat} {cs : Array Value} {most : Int} {L : List (Pl × Int)} {T : List (Jb × Int)} {sl sb : Value} {CL : List Cr}
theorem Sl.next (h : Sl w V g p bk bt q cs most L T sl sb CL) (hb : Below V.heap.size V V') : Sl w V' g p bk bt q cs most L T sl sb CL := ⟨h.box.next hb, h.cache.next hb, h.ref.next hb, h.low.trans (hb.mono h.low.size), h.same, h.len⟩
theorem Sl.both (h : Sl w V g p bk bt q cs most L T sl sb CL) : Both V p bk bt q most := ⟨L, T, sl, sb, CL, h.cache, h.ref, h.same, h.len.1, h.len.2.1⟩
theorem Sl.used (h : Sl w V g p bk bt q cs most L T sl sb CL) (x : Cr) (hx : CrAt w x) (now : Int) :
    Calls Try.prog 14 #[.pointer (some ⟨p, 0, none⟩), .agg #[.int .i64 x.j, .int .i64 x.e, .int .i64 x.s, .int .i64 x.f, .int .i64 x.u, .slice x.A x.n x.cap, .int .i64 x.c], .int .i64 now] V fun e w' => e = .returned (.bool (usedB L (x.pl hx.pk) now)) ∧ Below V.heap.size V w' :=
  used_any h.cache (x.pl hx.pk) x.f x.u x.A x.n x.cap x.c now
theorem Sl.rused (h : Sl w V g p bk bt q cs most L T sl sb CL) (x : Cr) (hx : CrAt w x) (now : Int) :
    Calls Try.prog 15 #[.pointer (some ⟨q, 0, none⟩), .agg #[.int .i64 x.j, .int .i64 x.e, .int .i64 x.s, .int .i64 x.f, .int .i64 x.u, .slice x.A x.n x.cap, .int .i64 x.c], .int .i64 now] V fun e w' => e = .returned (.bool (usedB L (x.pl hx.pk) now)) ∧ Below V.heap.size V w' := by
  have hl := h.same.length
  have := rused_any h.ref x now (by have := h.len; omega)
  rw [kept_same h.same (x := x) (p := x.pl hx.pk) rfl rfl rfl, ← used_has h.cache.apart] at this
  exact this
theorem Sl.revoked (h : Sl w V g p bk bt q cs most L T sl sb CL) (x : Cr) (hx : CrAt w x) :
    Calls Try.prog 16 #[.pointer (some ⟨p, 0, none⟩), .agg #[.int .i64 x.j, .int .i64 x.e, .int .i64 x.s, .int .i64 x.f, .int .i64 x.u, .slice x.A x.n x.cap, .int .i64 x.c]] V fun e w' => e = .returned (.bool (revB T (x.pl hx.pk).jb x.e)) ∧ Below V.heap.size V w' :=
  revoked_any h.cache (x.pl hx.pk).jb x.e x.s x.f x.u x.A x.n x.cap x.c
theorem Sl.rrevoked (h : Sl w V g p bk bt q cs most L T sl sb CL) (x : Cr) (hx : CrAt w x) :
    Calls Try.prog 17 #[.pointer (some ⟨q, 0, none⟩), .agg #[.int .i64 x.j, .int .i64 x.e, .int .i64 x.s, .int .i64 x.f, .int .i64 x.u, .slice x.A x.n x.cap, .int .i64 x.c]] V fun e w' => e = .returned (.bool (revB T (x.pl hx.pk).jb x.e)) ∧ Below V.heap.size V w' := by
  have := rrevoked_any h.ref x (by have := h.len; omega)
  rw [show backB T x.j x.e = revB T (x.pl hx.pk).jb x.e from back_same h.cache.apartT (x.pl hx.pk).jb x.e] at this
  exact this
theorem Sl.count (h : Sl w V g p bk bt q cs most L T sl sb CL) : Calls Try.prog 13 #[.pointer (some ⟨p, 0, none⟩)] V fun e w' => e = .returned (.int .i64 L.length) ∧ Below V.heap.size V w' :=
  (len_any h.cache).mono fun _ _ ⟨he, hw⟩ => ⟨he, by subst hw; exact Below.refl _ _⟩
theorem Bk.eleven {a0 a1 a2 a3 a4 a5 a6 a7 a8 a9 a10 : Value} {t : TypeId} (h : Bk V g t #[a0, a1, a2, a3, a4, a5, a6, a7, a8, a9, a10]) :
    V.cell? ⟨g, 0, none⟩ = some a0 ∧ V.cell? ⟨g, 1, none⟩ = some a1 ∧ V.cell? ⟨g, 2, none⟩ = some a2 ∧ V.cell? ⟨g, 3, none⟩ = some a3 ∧ V.cell? ⟨g, 4, none⟩ = some a4 ∧ V.cell? ⟨g, 5, none⟩ = some a5 ∧ V.cell? ⟨g, 6, none⟩ = some a6 ∧ V.cell? ⟨g, 7, none⟩ = some a7 ∧ V.cell? ⟨g, 8, none⟩ = some a8 ∧ V.cell? ⟨g, 9, none⟩ = some a9 ∧ V.cell? ⟨g, 10, none⟩ = some a10 :=
  ⟨h.cell 0 _ rfl, h.cell 1 _ rfl, h.cell 2 _ rfl, h.cell 3 _ rfl, h.cell 4 _ rfl, h.cell 5 _ rfl, h.cell 6 _ rfl, h.cell 7 _ rfl, h.cell 8 _ rfl, h.cell 9 _ rfl, h.cell 10 _ rfl⟩
end
set_option maxRecDepth 100000 in
set_option maxHeartbeats 4000000 in
theorem scripts_big (most : Int) (A : Option Addr) (n cap : Nat) (os : List OpR) (w : World) (hs : ScriptAt w A os) (hn : os.length = n) (hm : n ≤ maxLen) (hsm : smallB os 150 = false) : Calls Try.prog 3 #[.int .i64 most, .slice A n cap] w fun e w' => e = .returned (.bool true) ∧ Below w.heap.size w w' := by
  have KS := Lib.hid (small_any A n cap os 150 w hs hn hm)
  rw [hsm] at KS
  clear hn hsm
  go_enter Try.func3, Try.ntmps3
  go_wp2_with fail
  refine KS.out.mono ?_
  rintro e w1 ⟨rfl, rfl⟩
  go_wp2_with fail
  refine (live_any _).mono ?_
  rintro e w2 ⟨rfl, hb⟩
  go_wp2_with fail
  go_ret
  exact ⟨rfl, hb⟩
set_option maxRecDepth 100000 in
set_option maxHeartbeats 4000000 in
theorem scripts_none (most : Int) (A : Option Addr) (n cap : Nat) (os : List OpR) (w : World) (hs : ScriptAt w A os) (hn : os.length = n) (hm : n ≤ maxLen) (hsm : smallB os 150 = true) (hmo : most < 1 ∨ 64 < most) : Calls Try.prog 3 #[.int .i64 most, .slice A n cap] w fun e w' => e = .returned (.bool true) ∧ Below w.heap.size w w' := by
  have KS := Lib.hid (small_any A n cap os 150 w hs hn hm)
  rw [hsm] at KS
  clear hn hsm
  go_enter Try.func3, Try.ntmps3
  go_wp2_with fail
  refine KS.out.mono ?_
  rintro e w1 ⟨rfl, rfl⟩
  go_wp2_with fail
  refine (new_bad most _ hmo).mono ?_
  rintro e w1 ⟨rfl, rfl⟩
  go_wp2_with fail
  refine (rnew_bad most _ hmo).mono ?_
  rintro e w1 ⟨rfl, rfl⟩
  go_wp2_with fail
  refine (live_any _).mono ?_
  rintro e w2 ⟨rfl, hb⟩
  go_wp2_with fail
  go_ret
  exact ⟨rfl, hb⟩
/-- What is left of a region when its first part is done: one walk, where nothing below B turns. -/
theorem quiet_rest {P : Program} {Q : Exit → Act → World → Prop} {l0 : List Oper} (k n B : Nat) {listed : Array Bool} {a : Act} {w : World} (hn : (l0.drop k).length = n) (hs : Region.noSelect l0.toArray = true) (hB : Region.lexFrom .any l0.toArray n k listed = true)
    (h : wpQuiet P l0.toArray (fun w' => ∃ n : In B w, w' = n.val) (fun a' => ∀ w', Below B w w' → Q .normal a' w') (l0.drop k) a) : wpAny P .any l0.toArray Q n listed a w := by
  subst hn
  exact wpAny_of_quiet (Q := fun a' => ∀ w', Below B w w' → Q .normal a' w') (fun _ _ ⟨n, e⟩ hq => e ▸ hq _ n.ok) _ _ _ _ ⟨⟨w, Below.refl _ _⟩, rfl⟩ (wpAnyQ_lex hs (l0.drop k) k listed a (fun j => by simp [List.getElem?_drop]) hB h)
set_option maxRecDepth 100000 in
set_option maxHeartbeats 4000000 in
theorem scripts_go (most : Int) (A : Option Addr) (n cap : Nat) (os : List OpR) (w : World) (hs : ScriptAt w A os) (hn : os.length = n) (hm : n ≤ maxLen) (hsm : smallB os 150 = true) (m1 : 1 ≤ most) (m2 : most ≤ 64) : Calls Try.prog 3 #[.int .i64 most, .slice A n cap] w fun e w' => e = .returned (.bool true) ∧ Below w.heap.size w w' := by
  have KS := Lib.hid (small_any A n cap os 150 w hs hn hm)
  have hn150 : n ≤ 150 := by
    unfold smallB at hsm
    rw [Bool.and_eq_true, hn] at hsm
    have := hsm.2
    simp only [decide_eq_true_eq] at this
    omega
  rw [hsm] at KS
  have HN := Lib.hid hn
  clear hn hsm
  go_enter Try.func3, Try.ntmps3
  go_wp2_with fail
  refine KS.out.mono ?_
  rintro e w1 ⟨rfl, rfl⟩
  go_wp2_with fail
  refine (new_ok most _ m1 m2).mono ?_
  rintro e w1 ⟨p, bk, bt, rfl, hp, hk, ht, hC, hb0⟩
  go_wp2_with fail
  refine (rnew_ok most _ m1 m2).mono ?_
  rintro e w2 ⟨rfl, hq, hb⟩
  have hlk := hC.ltk
  have hlt := hC.ltt
  have hlp := hC.blk.lt
  have hs1 := hb0.size
  have hB : Both w2 p bk bt w1.heap.size most := ⟨[], [], .slice none 0 0, .slice none 0 0, [], hC.next hb, ⟨hq, World.ownsRow_nil _ _ _ _, World.ownsRow_nil _ _ _ _, fun g hg => by cases hg⟩, rfl, by simp; omega, by simp⟩
  have hlow : Below w.heap.size w w2 := bmore hb0 hb
  have hord : bk < w1.heap.size ∧ bt < w1.heap.size ∧ p < w1.heap.size := ⟨hlk, hlt, hlp⟩
  have hlo : w.heap.size ≤ bk ∧ w.heap.size ≤ bt ∧ w.heap.size ≤ w1.heap.size := ⟨hk, ht, hs1⟩
  clear hC hb hb0 hq hp hk ht hlk hlt hlp hs1
  generalize w1.heap.size = q at *
  go_wp2_with fail
  go_loopw [7] (fun i wr => ∃ k : Nat, k ≤ n ∧ i = .int .i64 k ∧ Both wr p bk bt q most ∧ Below w.heap.size w wr) (fun i _ => n - (intOf i).toNat)
  case atStart => exact ⟨0, Nat.zero_le _, rfl, hB, hlow⟩
  case round =>
    clear hB hlow
    obtain ⟨k, hk, rfl, hB, hlow⟩ := hrel
    by_cases hlt : k < n
    · obtain ⟨ad, o, rfl, hbl, hok, hoat, hc⟩ := (hs.below hlow).at_ (k := k) (by rw [HN.out]; exact hlt)
      have HO := Lib.hid hok
      clear hok hbl
      have hop := hs.1 o (List.mem_of_getElem? HO.out)
      have hcr := hop.cr
      clear hoat
      obtain ⟨d2, d3, d4, d5, d6, d7⟩ := hc.more
      obtain ⟨c0, c1, c2, c3, c4, c5, c6, c7, c8, c9, c10⟩ := hc
      have hx1 := below_alloc wr (.cells #[.int .i64 o.d, .int .i64 o.c.j, .int .i64 o.c.e, .int .i64 o.c.s, .int .i64 o.c.f, .int .i64 o.c.u, .slice o.c.A o.c.n o.c.cap, .int .i64 o.c.c, .int .i64 o.now, .int .i64 o.job, .int .i64 o.ep] 33)
      have jb := Bk.new wr 33 #[.int .i64 o.d, .int .i64 o.c.j, .int .i64 o.c.e, .int .i64 o.c.s, .int .i64 o.c.f, .int .i64 o.c.u, .slice o.c.A o.c.n o.c.cap, .int .i64 o.c.c, .int .i64 o.now, .int .i64 o.job, .int .i64 o.ep]
      have hsz := hlow.size
      have hblk : bk < wr.heap.size ∧ bt < wr.heap.size ∧ q < wr.heap.size := by
        obtain ⟨L, T, sl, sb, CL, hC, hR, _⟩ := hB
        exact ⟨hC.ltk, hC.ltt, hR.blk.lt⟩
      have hne : wr.heap.size ≠ bk ∧ wr.heap.size ≠ bt ∧ wr.heap.size ≠ q := ⟨by omega, by omega, by omega⟩
      replace hB := hB.next hx1
      replace hlow := hlow.trans (hx1.mono hlow.size)
      clear hx1 hblk
      go_wp2_with fail
      clear c0 c1 c2 c3 c4 c5 c6 c7 c8 c9 c10 d2 d3 d4 d5 d6 d7
      generalize wr.alloc (.cells #[.int .i64 o.d, .int .i64 o.c.j, .int .i64 o.c.e, .int .i64 o.c.s, .int .i64 o.c.f, .int .i64 o.c.u, .slice o.c.A o.c.n o.c.cap, .int .i64 o.c.c, .int .i64 o.now, .int .i64 o.job, .int .i64 o.ep] 33) = V0 at *
      have KD := Lib.hid (fun V (hV : Both V p bk bt q most) (hw : Below w.heap.size w V) => does_any hV m2 hord hw hlo o hop)
      obtain ⟨g0, g1, g2, g3, g4, g5, g6, g7, g8, g9, g10⟩ := (jb.drew).eleven
      refine wp_region_any (by kernel_rfl) (?_ : wpAny _ _ _ _ 41 (Array.replicate 41 false) _ V0.drew)
      refine wpAny_take (fuel := 40) (i := 0) rfl (by kernel_rfl) (by kernel_rfl) (by kernel_rfl) (fun _ _ _ h => h) (Or.inl ⟨by rfl, fun V => by go_simp; rfl⟩) ?_
      refine wpAny_take (fuel := 39) (i := 1) rfl (by kernel_rfl) (by kernel_rfl) (by kernel_rfl) (fun _ _ _ h => h) (Or.inl ⟨by rfl, fun V => by go_simp; rfl⟩) ?_
      simp only [Act.put, List.setIfInBounds_toArray]
      refine wpAny_ready (fuel := 38) (rs := [2]) (by kernel_rfl) (by simp) ?_
      refine AllReady.cons rfl (fun K hK => ?_) AllReady.nil
      go_simp
      refine hK _ _ ?_
      clear hK K g0 g1 g2 g3 g4 g5 g6 g7 g8 g9 g10
      refine wpAny_ready (fuel := 37) (rs := [3]) (by kernel_rfl) (by simp) ?_
      refine AllReady.cons rfl (fun K hK => ?_) AllReady.nil
      go_simp
      refine (KD.out _ hB.drew hlow.drew).mono ?_
      rintro y wn ⟨rfl, hB2, hkp⟩
      obtain ⟨L2, T2, sl2, sb2, CL2, hC2, hR2, hS2, hL2, hT2⟩ := hB2
      have st : Sl w wn wr.heap.size p bk bt q #[.int .i64 o.d, .int .i64 o.c.j, .int .i64 o.c.e, .int .i64 o.c.s, .int .i64 o.c.f, .int .i64 o.c.u, .slice o.c.A o.c.n o.c.cap, .int .i64 o.c.c, .int .i64 o.now, .int .i64 o.job, .int .i64 o.ep] most L2 T2 sl2 sb2 CL2 := ⟨hkp.bk jb.drew hne.1 hne.2.1 hne.2.2, hC2, hR2, hkp.below hlow.drew hlow.drew.size hlo.1 hlo.2.1 hlo.2.2, hS2, hL2, hT2, m2⟩
      obtain ⟨A2, cp2, hsl2⟩ := own_form hR2.rl
      subst hsl2
      have e1 : wn.cell? ⟨q, 1, none⟩ = some (.slice A2 L2.length cp2) := by rw [← hS2.length]; exact hR2.blk.cell 1 _ rfl
      clear hC2 hR2 hS2 hL2 hT2 hkp
      go_wp2_with fail
      have hqb := st.ref.blk.lt
      have hbb := st.box.lt
      obtain ⟨g0, g1, g2, g3, g4, g5, g6, g7, g8, g9, g10⟩ := st.box.eleven
      replace e1 := In.cell (B := wn.heap.size) hqb e1
      replace g0 := In.cell (B := wn.heap.size) hbb g0
      replace g1 := In.cell (B := wn.heap.size) hbb g1
      replace g2 := In.cell (B := wn.heap.size) hbb g2
      replace g3 := In.cell (B := wn.heap.size) hbb g3
      replace g4 := In.cell (B := wn.heap.size) hbb g4
      replace g5 := In.cell (B := wn.heap.size) hbb g5
      replace g6 := In.cell (B := wn.heap.size) hbb g6
      replace g7 := In.cell (B := wn.heap.size) hbb g7
      replace g8 := In.cell (B := wn.heap.size) hbb g8
      replace g9 := In.cell (B := wn.heap.size) hbb g9
      replace g10 := In.cell (B := wn.heap.size) hbb g10
      have hIn := inNonempty wn.heap.size wn
      have K13 := Lib.hid (fun i : In wn.heap.size wn => (st.next i.ok).count)
      have K14 := Lib.hid (fun i : In wn.heap.size wn => (st.next i.ok).used o.c hcr o.now)
      have K15 := Lib.hid (fun i : In wn.heap.size wn => (st.next i.ok).rused o.c hcr o.now)
      have K16 := Lib.hid (fun i : In wn.heap.size wn => (st.next i.ok).revoked o.c hcr)
      have K17 := Lib.hid (fun i : In wn.heap.size wn => (st.next i.ok).rrevoked o.c hcr)
      refine quiet_rest 4 37 wn.heap.size rfl (by kernel_rfl) (by kernel_rfl) ?_
      simp only [List.drop_succ_cons, List.drop_zero]
      repeat (go_big_quiet_step (first
        | (go_at_call 13; with_reducible exact Calls.in_of (Nat.le_refl _) (K13.out _))
        | (go_at_call 14; with_reducible exact Calls.in_of (Nat.le_refl _) (K14.out _))
        | (go_at_call 15; with_reducible exact Calls.in_of (Nat.le_refl _) (K15.out _))
        | (go_at_call 16; with_reducible exact Calls.in_of (Nat.le_refl _) (K16.out _))
        | (go_at_call 17; with_reducible exact Calls.in_of (Nat.le_refl _) (K17.out _))))
      refine wpQuiet_nil ?_
      intro w4 hb4
      replace st := st.next hb4
      clear e1 g0 g1 g2 g3 g4 g5 g6 g7 g8 g9 g10 hIn hb4 hqb hbb K13 K14 K15 K16 K17
      go_wp2_with fail
      go_roundw
      case rel => exact ⟨k + 1, by omega, by go_num, st.both, st.low⟩
      case measure => simp [intOf]; omega
    · go_wp2_with fail
      refine (live_any _).mono ?_
      rintro e w6 ⟨rfl, hb⟩
      go_wp2_with fail
      go_ret
      exact ⟨rfl, hlow.trans (hb.mono hlow.size)⟩
end Go.Proofs.Ytiokpflciagdoaa
