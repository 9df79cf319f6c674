/- The document's Assign, where the numbers may be. -/
import Derived.Test.YthmlibapjhmdbaaGQ10xQ11xW22
namespace Go.Proofs.Ythmlibapjhmdbaa
open Go.RowKit Go.Shelf
theorem takeM_snoc (ms : List (List Nat)) (k : Nat) (m : List Nat) (h : ms[k]? = some m) : ms.take (k + 1) = ms.take k ++ [m] := by
  have hk := (List.getElem?_eq_some_iff.1 h)
  obtain ⟨hk, he⟩ := hk
  rw [List.take_succ_eq_append_getElem hk, he]


theorem make_part {xs : List Nat} {base gz cap n lo q : Nat} {w : World} (hz : xs.length = n) (hx : ∀ x ∈ xs, x < 256) (hrow : w.ownsRow base 3 1 (.slice (some ⟨gz, 0, none⟩) n cap) n (nv xs)) (hq : lo + q ≤ n) (hl : q ≤ 256) (c2 : Nat) :
    Calls Try.prog 54 #[.slice (some ⟨gz, lo, none⟩) q c2] w fun e w' => e = .returned (.agg #[.int .u64 (Mk.nth (Mk.ofL ((xs.drop lo).take q)) 0 : Nat), .int .u64 (Mk.nth (Mk.ofL ((xs.drop lo).take q)) 1 : Nat), .int .u64 (Mk.nth (Mk.ofL ((xs.drop lo).take q)) 2 : Nat), .int .u64 (Mk.nth (Mk.ofL ((xs.drop lo).take q)) 3 : Nat)]) ∧ Below w.heap.size w w' := by
  have hw := nats_nv hz hrow
  have hsub : ((xs.drop lo).take q).Sublist xs := (List.take_sublist _ _).trans (List.drop_sublist _ _)
  have hx2 : ∀ x ∈ (xs.drop lo).take q, x < 256 := fun x h => hx x (hsub.subset h)
  have hlen : ((xs.drop lo).take q).length = q := by simp; omega
  have hA : NatsAt w w.heap.size (some ⟨gz, lo, none⟩) ((xs.drop lo).take q) := by
    rcases hw with h0 | ⟨ad, h1, h2, h3⟩
    · left; rw [h0]; simp
    · obtain rfl : (⟨gz, 0, none⟩ : Addr) = ad := by injection h1
      refine .inr ⟨_, rfl, h2, fun j hj => ?_⟩
      have hj2 : j < q := by omega
      have e1 : (⟨gz, lo, none⟩ : Addr).add j = (⟨gz, 0, none⟩ : Addr).add (lo + j) := by
        have a1 : (⟨gz, lo, none⟩ : Addr).add j = ⟨gz, lo + j, none⟩ := by unfold Addr.add; split <;> simp_all
        have a2 : (⟨gz, 0, none⟩ : Addr).add (lo + j) = ⟨gz, lo + j, none⟩ := by unfold Addr.add; split <;> simp_all
        rw [a1, a2]
      rw [e1, h3 (lo + j) (by omega)]
      congr 3
      rw [Mk.nth_getElem?, Mk.nth_getElem?, List.getElem?_take, if_pos hj2, List.getElem?_drop]
  have := make_any (some ⟨gz, lo, none⟩) c2 q _ w hA hlen (by omega)
  rw [wds_ofL hx2, vs4 (Mk.ofL_W4 hx2).1] at this
  exact this
/-- The masks of parts of a list. -/
def rk (fs : List Nat) (R Q : Nat) : List (List Nat) := (List.range R).map fun i => Mk.ofL ((fs.drop (i * Q)).take Q)
theorem rk_len (fs : List Nat) (R Q : Nat) : (rk fs R Q).length = R := by simp [rk]
theorem rk_get (fs : List Nat) (R Q k : Nat) (h : k < R) : (rk fs R Q)[k]? = some (Mk.ofL ((fs.drop (k * Q)).take Q)) := by simp [rk, h]
theorem own_ge {w : World} {base e size n g cap : Nat} {xs : List Value} (h : w.ownsRow base e size (.slice (some ⟨g, 0, none⟩) n cap) n xs) : base ≤ g := by
  rcases h.2 with ⟨h0, _⟩ | ⟨_, _, _, h1, h2, _⟩
  · cases h0
  · cases h1; exact h2
/-- What Assign of the document tells. -/
def AsgOut (w : World) (fs : List Nat) (R Q : Nat) (e : Ending) (w' : World) : Prop :=
  (fs.length < R * Q ∧ e = .returned (.tuple #[.slice none 0 0, .int .i64 12]) ∧ Below w.heap.size w w') ∨
  (R * Q ≤ fs.length ∧ ∃ g cap, e = .returned (.tuple #[.slice (some ⟨g, 0, none⟩) R cap, .int .i64 0]) ∧ w.heap.size ≤ g ∧ MasksAt w' w'.heap.size g (rk fs R Q) ∧ Below w.heap.size w w')

set_option maxRecDepth 100000 in
set_option maxHeartbeats 2000000 in
theorem rAssign_in (s p d : Int) (xs : List Nat) (n R Q a b c e : Nat) (w : World) (hd : ∀ W, Calls Try.prog 62 #[.agg #[.int .i64 s, .int .i64 p], .int .i64 d] W (Told W xs n 0)) (hn : xs.length = n) (hl : n ≤ 256) (hx : ∀ x ∈ xs, x < 256) (hr : ROk R Q) (hw : Mk.W4 [a, b, c, e]) :
    Calls Try.prog 51 #[.agg #[.int .i64 s, .int .i64 p], .agg #[.int .u64 a, .int .u64 b, .int .u64 c, .int .u64 e, .int .i64 R, .int .i64 Q, .int .i64 d]] w (AsgOut w (frk [a, b, c, e] xs n) R Q) := by
  have HD := Lib.hid hd
  have HR := Lib.hid hr
  have HN := Lib.hid hn
  have HX := Lib.hid hx
  have HW := Lib.hid hw
  obtain ⟨r1, r2, q1, q2⟩ := hr
  have hRQ := mul_le_8192 HR.out
  clear hd hn hx hw
  obtain ⟨i0, hi, hz0, hz1, hz2⟩ := info_parts info3
  obtain ⟨j0, hj, hy0, hy1, hy2⟩ := info_parts infoB
  have hb0 := ((Below.refl _ w).alloc (Nat.le_refl _) (.cells #[.int .i64 s, .int .i64 p] 23)).alloc (by simp) (.cells #[.int .u64 a, .int .u64 b, .int .u64 c, .int .u64 e, .int .i64 R, .int .i64 Q, .int .i64 d] 37)
  have k1 : Bk ((w.alloc (.cells #[.int .i64 s, .int .i64 p] 23)).alloc (.cells #[.int .u64 a, .int .u64 b, .int .u64 c, .int .u64 e, .int .i64 R, .int .i64 Q, .int .i64 d] 37)) (w.heap.size + 1) 37 #[.int .u64 a, .int .u64 b, .int .u64 c, .int .u64 e, .int .i64 R, .int .i64 Q, .int .i64 d] := by
    have := Bk.new (w.alloc (.cells #[.int .i64 s, .int .i64 p] 23)) 37 #[.int .u64 a, .int .u64 b, .int .u64 c, .int .u64 e, .int .i64 R, .int .i64 Q, .int .i64 d]
    rw [size_alloc] at this
    exact this
  go_enter Try.func51, Try.ntmps51
  go_wp2_with fail
  refine (HD.out _).mono ?_
  rintro e' w2 ⟨A, ca, rfl, hA, hb2⟩
  replace hb0 := bmore hb0 hb2
  replace k1 := k1.next hb2
  clear hb2
  have c4 := k1.cell 4 _ rfl
  have c5 := k1.cell 5 _ rfl
  have t1 : decide ((R : Int) < 1) = false := by simp; omega
  have t2 : decide ((32 : Int) < (R : Int)) = false := by simp; omega
  have t3 : decide ((Q : Int) < 1) = false := by simp; omega
  have t4 : decide ((256 : Int) < (Q : Int)) = false := by simp; omega
  go_wp2_with fail
  clear c4 c5 t1 t2 t3 t4
  have hl1 := k1.lt
  go_loopw [8, 9] (fun o i wr => ∃ k : Nat, k ≤ n ∧ i = .int .i64 k ∧ wr.ownsRow w2.heap.size 3 1 o (frk [a, b, c, e] xs k).length (nv (frk [a, b, c, e] xs k)) ∧ Below w2.heap.size w2 wr)
    (fun _ i _ => n - (intOf i).toNat)
  case atStart => exact ⟨0, Nat.zero_le _, rfl, World.ownsRow_nil _ _ _ _, Below.refl _ _⟩
  case round =>
    obtain ⟨k, hk, rfl, hrow, hb⟩ := hrel
    obtain ⟨O, co, rfl⟩ := own_form hrow
    have hfl := frk_len [a, b, c, e] xs k
    have kb := k1.below hb hl1
    by_cases hlt : k < n
    · have hkx : k < xs.length := by rw [HN.out]; exact hlt
      obtain ⟨ad, rfl, hadb, hca⟩ := (hA.below hb).at_ hkx
      have hy := HX.out _ (nth_mem xs k hkx)
      have RH := Lib.hid (fun W => rHas_in [a, b, c, e] (Mk.nth xs k) W HW.out hy)
      have FH : Hid (Mk.hasB [a, b, c, e] (Mk.nth xs k) = true → frk [a, b, c, e] xs (k + 1) = frk [a, b, c, e] xs k ++ [Mk.nth xs k]) := fun h => frk_hit hkx h
      have FM : Hid (Mk.hasB [a, b, c, e] (Mk.nth xs k) = false → frk [a, b, c, e] xs (k + 1) = frk [a, b, c, e] xs k) := fun h => frk_miss hkx h
      have HKX := Lib.hid hkx
      clear hkx
      generalize Mk.nth xs k = y at *
      have i0' : (0 : Int) ≤ (k : Int) := by omega
      have i1 : (k : Int) < (n : Int) := by omega
      have hadw : ad.block < wr.heap.size := Nat.lt_of_lt_of_le hadb hb.size
      have C0 := In.cell (B := wr.heap.size) kb.lt (kb.cell 0 _ rfl)
      have C1 := In.cell (B := wr.heap.size) kb.lt (kb.cell 1 _ rfl)
      have C2 := In.cell (B := wr.heap.size) kb.lt (kb.cell 2 _ rfl)
      have C3 := In.cell (B := wr.heap.size) kb.lt (kb.cell 3 _ rfl)
      have C4 := In.cell (B := wr.heap.size) (p := ad.add k) (by rw [block_add]; exact hadw) hca
      have hIn := inNonempty wr.heap.size wr
      go_wp2_with fail
      refine region_in wr.heap.size (by kernel_rfl) (by kernel_rfl) ?_
      repeat (go_big_quiet_step ((first | (go_at_call 63; exact Calls.in_of (Nat.le_refl _) (RH.out _)))))
      refine wpQuiet_nil ?_
      intro w3 hb3
      clear C0 C1 C2 C3 C4 hIn
      have hrow3 := own_next hrow hb3
      have hbw := hb.trans (hb3.mono hb.size)
      have hca3 : w3.cell? (ad.add k) = some (.int .i64 (y : Int)) := (hb3.cell (by rw [block_add]; exact hadw)).trans hca
      clear hca
      by_cases hh : Mk.hasB [a, b, c, e] y = true
      · have HH := Lib.hid hh
        have HF := Lib.hid (FH.out hh)
        rw [HH.out]
        clear hh
        have hsz := hbw.size
        go_wp2_with (at_builtin; refine wpList_append_own _ rfl _ _ 44 rfl w2.heap.size 3 i0 (.int .i64 0) 1 8 Try.underlying44 hi hz0 hz1 hz2 rfl (by decide) _ _ _ rfl (hrow3.alloc _) ⟨w3.heap.size, 0, none⟩ 1 1 [.int .i64 (y : Int)] rfl rfl (cell_one_new _ _ _) (by simp [Value.oneCell']) (by unfold maxLen; omega) (by omega) (by simp; omega) ?_; intro v' w4 hown' hgrow _; obtain ⟨g', cap', rfl⟩ := ownsRow_succ hown'; have hb4 := appended_below hrow3 hsz hgrow)
        go_roundw
        case rel => exact ⟨k + 1, by omega, by go_num, by rw [HF.out, nv_snoc, List.length_append]; exact hown', hbw.trans hb4⟩
        case measure => simp [intOf]; omega
      · have hh' : Mk.hasB [a, b, c, e] y = false := by simpa using hh
        have HH := Lib.hid hh'
        have HF := Lib.hid (FM.out hh')
        rw [HH.out]
        clear hh hh'
        go_wp2_with fail
        go_roundw
        case rel => exact ⟨k + 1, by omega, by go_num, by rw [HF.out]; exact hrow3, hbw⟩
        case measure => simp [intOf]; omega
    · obtain rfl : k = n := by omega
      have HFX := Lib.hid (frk_lt (F := [a, b, c, e]) HX.out k)
      generalize frk [a, b, c, e] xs k = fs at *
      obtain ⟨L, hL⟩ : ∃ L, L = fs.length := ⟨_, rfl⟩
      have HLL := Lib.hid hL.symm
      rw [← hL] at hrow hfl ⊢
      clear hL
      obtain ⟨M, hM⟩ : ∃ M, M = R * Q := ⟨_, rfl⟩
      have HMM := Lib.hid hM
      have hmul : (R : Int) * (Q : Int) = (M : Int) := by rw [hM]; simp
      rw [← hM] at hRQ
      clear hM
      have c4 := kb.cell 4 _ rfl
      have c5 := kb.cell 5 _ rfl
      have hbA := hb0.trans (hb.mono hb0.size)
      by_cases hf : L < M
      · have t5 : decide ((L : Int) < (M : Int)) = true := by simp; omega
        go_wp2_with fail
        go_ret2
        exact .inl ⟨by rw [HLL.out, ← HMM.out]; exact hf, rfl, hbA⟩
      · have t5 : decide ((L : Int) < (M : Int)) = false := by simp; omega
        have t6 : decide (L < M) = false := by simp; omega
        have hM1 : 1 ≤ M := by rw [HMM.out]; exact mul_pos' HR.out
        obtain ⟨gz, cz, hO⟩ : ∃ g cap, Value.slice O L co = .slice (some ⟨g, 0, none⟩) L cap := by
          rcases Joins.ownsRow_forms hrow with ⟨_, h0⟩ | h0
          · omega
          · exact h0
        obtain ⟨rfl, rfl⟩ : O = some ⟨gz, 0, none⟩ ∧ co = cz := by injection hO with h1 _ h2; exact ⟨h1, h2⟩
        clear hO
        have hcz := (own_lt hrow).2
        have hgz := (own_lt hrow).1
        go_wp2_with fail
        clear c4 c5
        obtain ⟨Wq, hWq⟩ : ∃ Wq, Wq = wr := ⟨_, rfl⟩
        subst hWq
        have hlb := kb.lt
        go_loopw [10, 11] (fun o i wr => ∃ j : Nat, j ≤ R ∧ i = .int .i64 j ∧ wr.ownsRow Wq.heap.size 35 4 o j (mv ((rk fs R Q).take j)) ∧ Below Wq.heap.size Wq wr)
          (fun _ i _ => R - (intOf i).toNat)
        case atStart => exact ⟨0, Nat.zero_le _, rfl, World.ownsRow_nil _ _ _ _, Below.refl _ _⟩
        case round =>
          obtain ⟨j, hj2, rfl, hrow2, hbj⟩ := hrel
          obtain ⟨O2, c2, rfl⟩ := own_form hrow2
          have kj := kb.below hbj hlb
          have d4 := kj.cell 4 _ rfl
          have d5 := kj.cell 5 _ rfl
          by_cases hlt3 : j < R
          · obtain ⟨lo, hlo⟩ : ∃ lo, lo = j * Q := ⟨_, rfl⟩
            have hm1 : (j : Int) * (Q : Int) = (lo : Int) := by rw [hlo]; simp
            have hm2 : ((j : Int) + 1) * (Q : Int) = (lo : Int) + Q := by rw [Int.add_mul, hm1]; simp
            have hlq : lo + Q ≤ M := by
              have h5 : (j + 1) * Q ≤ R * Q := Nat.mul_le_mul_right Q hlt3
              rw [Nat.add_mul, Nat.one_mul, ← hlo, ← HMM.out] at h5
              exact h5
            have HG : Hid ((rk fs R Q)[j]? = some (Mk.ofL ((fs.drop lo).take Q))) := by show _ = _; rw [rk_get fs R Q j hlt3, hlo]
            have HT := Lib.hid (takeM_snoc _ _ _ HG.out)
            clear hlo
            have hrow1 := own_next hrow hbj
            have hdj : decide ((j : Int) < (R : Int)) = true := by simp; omega
            go_wp2_with fail
            refine (make_part HLL.out HFX.out hrow1 (by omega) q2 _).mono ?_
            rintro e5 w5 ⟨rfl, hb5⟩
            clear hm1 hm2 d4 d5
            generalize Mk.ofL ((fs.drop lo).take Q) = m at *
            have hrow3 := own_next hrow2 hb5
            have hbw := hbj.trans (hb5.mono hbj.size)
            have hsz := hbw.size
            go_wp2_with (at_builtin; refine wpList_append_own _ rfl _ _ 71 rfl Wq.heap.size 35 j0 (.agg #[.int .u64 0, .int .u64 0, .int .u64 0, .int .u64 0]) 4 32 Try.underlying71 hj hy0 hy1 hy2 rfl (by decide) _ _ _ rfl (hrow3.alloc _) ⟨w5.heap.size, 0, none⟩ 1 1 (w4 m) rfl rfl (World.news_of_block (Bk.new w5 35 #[.int .u64 (Mk.nth m 0 : Nat), .int .u64 (Mk.nth m 1 : Nat), .int .u64 (Mk.nth m 2 : Nat), .int .u64 (Mk.nth m 3 : Nat)])) (by simp [w4, Value.oneCell']) (by unfold maxLen; omega) (by omega) (by simp; omega) ?_; intro v' w6 hown' hgrow _; obtain ⟨g', cap', rfl⟩ := ownsRow_succ hown'; have hb6 := appended_below hrow3 hsz hgrow)
            go_roundw
            case rel => exact ⟨j + 1, by omega, by go_num, by rw [HT.out, mv_snoc]; exact hown', hbw.trans hb6⟩
            case measure => simp [intOf]; omega
          · obtain rfl : j = R := by omega
            rw [List.take_of_length_le (by rw [rk_len]; exact Nat.le_refl _)] at hrow2
            obtain ⟨gm, cm, hO2⟩ : ∃ g cap, Value.slice O2 j c2 = .slice (some ⟨g, 0, none⟩) j cap := by
              rcases Joins.ownsRow_forms hrow2 with ⟨_, h0⟩ | h0
              · omega
              · exact h0
            obtain ⟨rfl, rfl⟩ : O2 = some ⟨gm, 0, none⟩ ∧ c2 = cm := by injection hO2 with h1 _ h2; exact ⟨h1, h2⟩
            clear hO2
            go_wp2_with fail
            go_ret2
            exact .inr ⟨by rw [HLL.out, ← HMM.out]; omega, gm, c2, rfl, Nat.le_trans hbA.size (own_ge hrow2), masks_own (rk_len fs j Q) hrow2, hbA.trans (hbj.mono hbA.size)⟩
end Go.Proofs.Ythmlibapjhmdbaa
/- A pool: Reserve of any owner, any wish. -/
namespace Go.Proofs.Ythmlibapjhmdbaa
open Go.RowKit Go.Shelf Go.Maps

theorem has_orN {a b : List Nat} (ha : Mk.W4 a) (hb : Mk.W4 b) {d : Nat} (hd : d < 256) : Mk.hasB (zw Nat.lor a b) d = (Mk.hasB a d || Mk.hasB b d) := by
  unfold Mk.hasB
  rw [zw_nth ha.1 hb.1 (by omega)]
  exact Nat.testBit_or _ _ _
theorem has_foldN : ∀ (ms : List (List Nat)) (a : List Nat), Mk.W4 a → (∀ m ∈ ms, Mk.W4 m) → ∀ {d : Nat}, d < 256 → (Mk.hasB a d = true ∨ ∃ m, m ∈ ms ∧ Mk.hasB m d = true) → Mk.hasB (ms.foldl (zw Nat.lor) a) d = true
  | [], a, _, _, d, _, h => by
    rcases h with h | ⟨m, hm, _⟩
    · exact h
    · cases hm
  | x :: ms, a, ha, hm, d, hd, h => has_foldN ms _ (lor_W4 ha (hm x List.mem_cons_self)) (fun y hy => hm y (List.mem_cons_of_mem _ hy)) hd (by
      rcases h with h | ⟨m, h1, h2⟩
      · exact .inl (by rw [has_orN ha (hm x List.mem_cons_self) hd, h]; rfl)
      · rcases List.mem_cons.1 h1 with rfl | h1
        · exact .inl (by rw [has_orN ha (hm _ List.mem_cons_self) hd, h2, Bool.or_true])
        · exact .inr ⟨m, h1, h2⟩)
theorem orAll_some {ms : List (List Nat)} (h4 : ∀ m ∈ ms, Mk.W4 m) {m : List Nat} (hm : m ∈ ms) {d : Nat} (hd : d < 256) (h : Mk.hasB m d = true) : orAll ms ≠ Mk.zero := by
  intro e
  have := has_foldN ms _ Mk.W4.zero h4 hd (.inr ⟨m, hm, h⟩)
  unfold orAll at e
  rw [e, Mk.has_zero] at this
  cases this
theorem ranks_some {zs : List Core} {r q : Nat} (hr : 1 ≤ r) (hq : 1 ≤ q) (hz : 1 ≤ zs.length) : orAll (ranks zs r q) ≠ Mk.zero := by
  cases zs with
  | nil => simp at hz
  | cons z zs =>
    refine orAll_some (ranks_W4 _ r q) (List.mem_of_getElem? (ranks_get (z :: zs) r q 0 (by omega))) z.2 (d := z.1) ?_
    rw [Mk.has_ofL (fun x hx => core_lt (z :: zs) x (List.mem_of_mem_drop (List.mem_of_mem_take hx)))]
    obtain ⟨q', rfl⟩ : ∃ q', q = q' + 1 := ⟨q - 1, by omega⟩
    simp

set_option maxRecDepth 100000 in
set_option maxHeartbeats 1000000 in
theorem reserve_bad {w : World} {p b k s q : Nat} {g : Int → Option Sh} (h : PoolAt w p b k s q g) {n : Int} (hn : (Lit.int .i64 n).wf = true) (x0 x1 x2 x3 : Nat) (r pe d : Int) (KO : ∀ V : World, Calls Try.prog 45 #[.int .i64 n] V fun e w' => e = .returned (.bool false) ∧ V = w') : Calls Try.prog 26 #[.pointer (some ⟨p, 0, none⟩), .int .i64 n, .agg #[.int .u64 x0, .int .u64 x1, .int .u64 x2, .int .u64 x3, .int .i64 r, .int .i64 pe, .int .i64 d]] w fun e w' => e = .returned (.tuple #[.slice none 0 0, .int .i64 1]) ∧ Below w.heap.size w w' := by
  replace KO := Lib.hid KO
  have HN := Lib.hid hn
  have hb0 := (Below.refl _ w).alloc (Nat.le_refl _) (.cells #[.int .u64 x0, .int .u64 x1, .int .u64 x2, .int .u64 x3, .int .i64 r, .int .i64 pe, .int .i64 d] 61)
  replace h := h.next hb0
  go_enter Try.func26, Try.ntmps26
  go_wp2_with fail
  refine (KO.out _).mono ?_
  rintro e w1 ⟨rfl, rfl⟩
  go_wp2_with fail
  go_ret2
  exact ⟨rfl, hb0⟩

/-- What Reserve gives: masks that have a core, together the owner's. -/
def Got (w w' : World) (p b k s q : Nat) (g : Int → Option Sh) (n : Int) (e : Ending) : Prop :=
  ∃ (gm R : Nat) (ms : List (List Nat)) (c : Sh), e = .returned (.tuple #[.slice (some ⟨gm, 0, none⟩) R R, .int .i64 0]) ∧ w.heap.size ≤ gm ∧ Row .u64 40 w' gm ms.flatten ∧ (∀ m ∈ ms, Mk.W4 m) ∧ ms.length = R ∧ R ≤ 32 ∧ c.m = orAll ms ∧ c.t = false ∧ c.m ≠ Mk.zero ∧ Turned w w' p b (k + 1) s q (fun m => if m = n then some c else g m)
theorem reserve_any {w : World} {p b k s q : Nat} {g : Int → Option Sh} (h : PoolAt w p b k s q g) (hL : LOk s q) {n : Int} (hn : (Lit.int .i64 n).wf = true) (x0 x1 x2 x3 : Nat) (r pe d : Int) (hk : k < 1000000) : Calls Try.prog 26 #[.pointer (some ⟨p, 0, none⟩), .int .i64 n, .agg #[.int .u64 x0, .int .u64 x1, .int .u64 x2, .int .u64 x3, .int .i64 r, .int .i64 pe, .int .i64 d]] w fun e w' => (∃ er : Int, e = .returned (.tuple #[.slice none 0 0, .int .i64 er]) ∧ er ≠ 0 ∧ Below w.heap.size w w') ∨ Got w w' p b k s q g n e := by
  cases ho : isOwn n with
  | false =>
    refine (reserve_bad h hn x0 x1 x2 x3 r pe d (fun V => by have := isOwner_any n V; rw [ho] at this; exact this)).mono ?_
    rintro e w' ⟨rfl, hb⟩
    exact .inl ⟨1, rfl, by decide, hb⟩
  | true =>
    have KO : ∀ V : World, Calls Try.prog 45 #[.int .i64 n] V fun e w' => e = .returned (.bool true) ∧ V = w' := fun V => by have := isOwner_any n V; rw [ho] at this; exact this
    cases hg : (g n).isSome with
    | true =>
      refine (reserve_has h hn x0 x1 x2 x3 r pe d KO hg).mono ?_
      rintro e w' ⟨rfl, hb⟩
      exact .inl ⟨14, rfl, by decide, hb⟩
    | false =>
      have hF := freeM_W4 (Mk.ofL (List.range (s * q))) g
      have KF0 : ∀ V : World, PoolAt V p b k s q g → Calls Try.prog 13 #[.pointer (some ⟨p, 0, none⟩)] V fun e w' => e = .returned (.agg (vs .u64 (freeM (Mk.ofL (List.range (s * q))) g))) ∧ Below V.heap.size V w' := fun V hV => free_fix hV hL
      revert KF0 hF
      generalize freeM (Mk.ofL (List.range (s * q))) g = F
      intro hF KF0
      obtain ⟨f0, f1, f2, f3, rfl⟩ : ∃ f0 f1 f2 f3, F = [f0, f1, f2, f3] := ⟨_, _, _, _, Mk.len4 hF.1⟩
      have KF : ∀ V : World, PoolAt V p b k s q g → Calls Try.prog 13 #[.pointer (some ⟨p, 0, none⟩)] V fun e w' => e = .returned (.agg #[.int .u64 f0, .int .u64 f1, .int .u64 f2, .int .u64 f3]) ∧ Below V.heap.size V w' := KF0
      by_cases hd : d = 0 ∨ d = 1
      · obtain ⟨fid, of, hD⟩ : ∃ fid of, IsDist d fid s q of := by
          rcases hd with rfl | rfl
          · exact ⟨84, id, .inl ⟨rfl, rfl, rfl⟩⟩
          · exact ⟨85, cyc s q, .inr ⟨rfl, rfl, rfl⟩⟩
        rcases ROk_or r pe with ⟨a, c, rfl, rfl, hR⟩ | hR
        · by_cases hf : (fr [f0, f1, f2, f3] (upto of (s * q))).length < a * c
          · refine (reserve_few h hn x0 x1 x2 x3 a c d f0 f1 f2 f3 12 (by decide) KO hg KF (fun V => assign_few hD a c f0 f1 f2 f3 V hL hR hF hf)).mono ?_
            rintro e w' ⟨rfl, hb⟩
            exact .inl ⟨12, rfl, by decide, hb⟩
          · have hz : 1 ≤ (wished [f0, f1, f2, f3] of (s * q) (a * c)).length := by
              have := mul_pos' hR
              unfold wished
              rw [List.length_take]
              omega
            have hS := ranks_some hR.1 hR.2.2.1 hz
            have hl := ranks_len (wished [f0, f1, f2, f3] of (s * q) (a * c)) a c
            have hW4 := ranks_W4 (wished [f0, f1, f2, f3] of (s * q) (a * c)) a c
            have KA : ∀ V : World, Calls Try.prog 46 #[.agg #[.int .i64 s, .int .i64 q], .agg #[.int .u64 f0, .int .u64 f1, .int .u64 f2, .int .u64 f3, .int .i64 a, .int .i64 c, .int .i64 d]] V (Lays V (ranks (wished [f0, f1, f2, f3] of (s * q) (a * c)) a c) a) := fun V => assign_ok hD a c f0 f1 f2 f3 V hL hR hF (by omega)
            revert hS hl hW4 KA
            generalize ranks (wished [f0, f1, f2, f3] of (s * q) (a * c)) a c = ms
            intro hS hl hW4 KA
            have hor := orAll_W4 ms hW4
            obtain ⟨a0, a1, a2, a3, ea⟩ : ∃ a0 a1 a2 a3, orAll ms = [a0, a1, a2, a3] := ⟨_, _, _, _, Mk.len4 hor.1⟩
            refine (reserve_ok h hn x0 x1 x2 x3 a c d hk ⟨orAll ms, false, hor⟩ f0 f1 f2 f3 a0 a1 a2 a3 a ms.flatten ea rfl KO hg KF KA (fun V gm hr => by
              have := union_any gm a a ms V (masks_row hr (fun m hm => (hW4 m hm).1)) hW4 hl hR.2.1
              rw [ea] at this
              exact this)).mono ?_
            rintro e w' ⟨gm, rfl, h1, h2, h3⟩
            exact .inr ⟨gm, a, ms, ⟨orAll ms, false, hor⟩, rfl, h1, h2, hW4, hl, hR.2.1, rfl, rfl, hS, h3⟩
        · refine (reserve_few h hn x0 x1 x2 x3 r pe d f0 f1 f2 f3 1 (by decide) KO hg KF (fun V => assign_arg hD r pe f0 f1 f2 f3 V hL hR)).mono ?_
          rintro e w' ⟨rfl, hb⟩
          exact .inl ⟨1, rfl, by decide, hb⟩
      · refine (reserve_few h hn x0 x1 x2 x3 r pe d f0 f1 f2 f3 1 (by decide) KO hg KF (fun V => assign_no s q d r pe f0 f1 f2 f3 V (fun W => dist_none s q d W hL (by simpa using fun h => hd (.inl h)) (by simpa using fun h => hd (.inr h))))).mono ?_
        rintro e w' ⟨rfl, hb⟩
        exact .inl ⟨1, rfl, by decide, hb⟩
end Go.Proofs.Ythmlibapjhmdbaa
/- A pool: Take, Commit of any owner; what Reserve gives was free. -/
namespace Go.Proofs.Ythmlibapjhmdbaa
open Go.RowKit Go.Shelf Go.Maps

theorem fold_has : ∀ (ms : List (List Nat)) (a : List Nat), Mk.W4 a → (∀ m ∈ ms, Mk.W4 m) → ∀ {d : Nat}, d < 256 → Mk.hasB (ms.foldl (zw Nat.lor) a) d = true → Mk.hasB a d = true ∨ ∃ m, m ∈ ms ∧ Mk.hasB m d = true
  | [], _, _, _, _, _, h => .inl h
  | x :: ms, a, ha, hm, d, hd, h => by
    rcases fold_has ms _ (lor_W4 ha (hm x List.mem_cons_self)) (fun y hy => hm y (List.mem_cons_of_mem _ hy)) hd h with h1 | ⟨m, h1, h2⟩
    · rw [has_orN ha (hm x List.mem_cons_self) hd, Bool.or_eq_true] at h1
      rcases h1 with h1 | h1
      · exact .inl h1
      · exact .inr ⟨x, List.mem_cons_self, h1⟩
    · exact .inr ⟨m, List.mem_cons_of_mem _ h1, h2⟩
theorem orAll_has {ms : List (List Nat)} (h4 : ∀ m ∈ ms, Mk.W4 m) {d : Nat} (hd : d < 256) (h : Mk.hasB (orAll ms) d = true) : ∃ m, m ∈ ms ∧ Mk.hasB m d = true := by
  rcases fold_has ms _ Mk.W4.zero h4 hd h with h1 | h1
  · rw [Mk.has_zero] at h1
    cases h1
  · exact h1
theorem orAll_lt {ms : List (List Nat)} (h4 : ∀ m ∈ ms, Mk.W4 m) {d : Nat} (h : Mk.hasB (orAll ms) d = true) : d < 256 := by
  rcases Nat.lt_or_ge d 256 with l | l
  · exact l
  · rw [Mk.has_out (orAll_W4 ms h4).1 d l] at h
    cases h
theorem ranks_free {F : List Nat} (of : Nat → Nat) (N n r q : Nat) {d : Nat} (h : Mk.hasB (orAll (ranks (wished F of N n) r q)) d = true) : Mk.hasB F d = true := by
  have h4 := ranks_W4 (wished F of N n) r q
  obtain ⟨m, hm, hx⟩ := orAll_has h4 (orAll_lt h4 h) h
  obtain ⟨i, _, rfl⟩ := List.mem_map.1 hm
  rw [Mk.has_ofL (fun x hx => core_lt (wished F of N n) x (List.mem_of_mem_drop (List.mem_of_mem_take hx))), decide_eq_true_eq] at hx
  obtain ⟨c, hc, rfl⟩ := List.mem_map.1 (List.mem_of_mem_drop (List.mem_of_mem_take hx))
  exact (List.mem_filter.1 (List.mem_of_mem_take hc)).2

theorem commit_any {w : World} {p b k s q : Nat} {g : Int → Option Sh} (h : PoolAt w p b k s q g) {n : Int} (hn : (Lit.int .i64 n).wf = true) (hk : k < 1000000) :
    Calls Try.prog 28 #[.pointer (some ⟨p, 0, none⟩), .int .i64 n] w fun e w' => (e = .returned (.int .i64 14) ∧ ((g n).isSome = true → ((g n).getD Sh.none).t = true) ∧ Below w.heap.size w w') ∨ ∃ c, g n = some c ∧ c.t = false ∧ e = .returned (.int .i64 0) ∧ Turned w w' p b (k + 1) s q (fun m => if m = n then some ⟨c.m, true, c.ok⟩ else g m) := by
  have c2 := h.cells.2.2
  have hl := (h.look hn).1
  cases hg : g n with
  | none =>
    rw [hg] at hl
    refine (commit_no p b n _ _ _ _ _ _ w c2 (.inl rfl) hl).mono ?_
    rintro e w' ⟨rfl, hb⟩
    exact .inl ⟨rfl, fun x => (by cases x), hb⟩
  | some c =>
    cases ht : c.t with
    | true =>
      rw [hg] at hl
      refine (commit_no p b n _ _ _ _ _ _ w c2 (.inr ⟨rfl, ht⟩) hl).mono ?_
      rintro e w' ⟨rfl, hb⟩
      exact .inl ⟨rfl, fun _ => ht, hb⟩
    | false =>
      refine (commit_ok h hn hg ht hk).mono ?_
      rintro e w' ⟨rfl, hT⟩
      exact .inr ⟨c, rfl, ht, rfl, hT⟩
theorem zero_iff (a0 a1 a2 a3 : Nat) : ((a0 : Int) == 0 && (a1 : Int) == 0 && (a2 : Int) == 0 && (a3 : Int) == 0) = decide ([a0, a1, a2, a3] = Mk.zero) := by
  rw [Bool.eq_iff_iff]
  simp [Mk.zero]
  omega
/-- Take of any owner, any mask. -/
theorem take_any {w : World} {p b k s q : Nat} {g : Int → Option Sh} (h : PoolAt w p b k s q g) (hL : LOk s q) {n : Int} (hn : (Lit.int .i64 n).wf = true) (a0 a1 a2 a3 : Nat) (ha : Mk.W4 [a0, a1, a2, a3]) (hk : k < 1000000) :
    Calls Try.prog 27 #[.pointer (some ⟨p, 0, none⟩), .int .i64 n, .agg #[.int .u64 a0, .int .u64 a1, .int .u64 a2, .int .u64 a3]] w fun e w' =>
      (∃ er : Int, e = .returned (.int .i64 er) ∧ er ≠ 0 ∧ Below w.heap.size w w') ∨
      (e = .returned (.int .i64 0) ∧ isOwn n = true ∧ (g n).isSome = false ∧ [a0, a1, a2, a3] ≠ Mk.zero ∧ (∀ d, d < 256 → Mk.hasB [a0, a1, a2, a3] d = true → Mk.hasB (freeM (Mk.ofL (List.range (s * q))) g) d = true) ∧ Turned w w' p b (k + 1) s q (fun m => if m = n then some ⟨[a0, a1, a2, a3], true, ha⟩ else g m)) := by
  cases ho : isOwn n with
  | false =>
    refine (take_none h hn a0 a1 a2 a3 (fun V => by have := isOwner_any n V; rw [ho] at this; exact this)).mono ?_
    rintro e w' ⟨rfl, hb⟩
    exact .inl ⟨1, rfl, by decide, hb⟩
  | true =>
    have KO : ∀ V : World, Calls Try.prog 45 #[.int .i64 n] V fun e w' => e = .returned (.bool true) ∧ V = w' := fun V => by have := isOwner_any n V; rw [ho] at this; exact this
    by_cases hz : [a0, a1, a2, a3] = Mk.zero
    · refine (take_empty h hn a0 a1 a2 a3 KO (fun V => by have := isEmpty_any a0 a1 a2 a3 V; rw [zero_iff, decide_eq_true hz] at this; exact this)).mono ?_
      rintro e w' ⟨rfl, hb⟩
      exact .inl ⟨1, rfl, by decide, hb⟩
    have KE : ∀ V : World, Calls Try.prog 48 #[.agg #[.int .u64 a0, .int .u64 a1, .int .u64 a2, .int .u64 a3]] V fun e w' => e = .returned (.bool false) ∧ Below V.heap.size V w' := fun V => by have := isEmpty_any a0 a1 a2 a3 V; rw [zero_iff, decide_eq_false hz] at this; exact this
    cases hg : (g n).isSome with
    | true =>
      refine (take_state h hn a0 a1 a2 a3 hg KO KE).mono ?_
      rintro e w' ⟨rfl, hb⟩
      exact .inl ⟨14, rfl, by decide, hb⟩
    | false =>
      have hF := freeM_W4 (Mk.ofL (List.range (s * q))) g
      have KF0 : ∀ V : World, PoolAt V p b k s q g → Calls Try.prog 13 #[.pointer (some ⟨p, 0, none⟩)] V fun e w' => e = .returned (.agg (vs .u64 (freeM (Mk.ofL (List.range (s * q))) g))) ∧ Below V.heap.size V w' := fun V hV => free_fix hV hL
      revert KF0 hF
      generalize freeM (Mk.ofL (List.range (s * q))) g = F
      intro hF KF0
      obtain ⟨f0, f1, f2, f3, rfl⟩ : ∃ f0 f1 f2 f3, F = [f0, f1, f2, f3] := ⟨_, _, _, _, Mk.len4 hF.1⟩
      obtain ⟨d0, d1, d2, d3, hd⟩ : ∃ d0 d1 d2 d3, zw andN [a0, a1, a2, a3] [f0, f1, f2, f3] = [d0, d1, d2, d3] := ⟨_, _, _, _, Mk.len4 (zw_len ha.1 hF.1)⟩
      have KM : ∀ V : World, Calls Try.prog 24 #[.agg #[.int .u64 a0, .int .u64 a1, .int .u64 a2, .int .u64 a3], .agg #[.int .u64 f0, .int .u64 f1, .int .u64 f2, .int .u64 f3]] V fun e w' => e = .returned (.agg #[.int .u64 d0, .int .u64 d1, .int .u64 d2, .int .u64 d3]) ∧ Below V.heap.size V w' := fun V => by
        have := minus_any [a0, a1, a2, a3] [f0, f1, f2, f3] V ha hF
        rw [hd] at this
        exact this
      by_cases hz2 : [d0, d1, d2, d3] = Mk.zero
      · refine (take_walk h hn hk ⟨[a0, a1, a2, a3], true, ha⟩ a0 a1 a2 a3 f0 f1 f2 f3 d0 d1 d2 d3 rfl rfl hg KO KE KF0 KM (fun V => by have := isEmpty_any d0 d1 d2 d3 V; rw [zero_iff, decide_eq_true hz2] at this; exact this)).mono ?_
        rintro e w' ⟨rfl, hT⟩
        refine .inr ⟨rfl, rfl, rfl, hz, fun d hd2 hx => ?_, hT⟩
        have := has_andN ha hF hd2
        rw [hd, hz2, Mk.has_zero, hx] at this
        simpa using this
      · refine (take_cores h hn a0 a1 a2 a3 f0 f1 f2 f3 d0 d1 d2 d3 hg KO KE KF0 KM (fun V => by have := isEmpty_any d0 d1 d2 d3 V; rw [zero_iff, decide_eq_false hz2] at this; exact this)).mono ?_
        rintro e w' ⟨rfl, hb⟩
        exact .inl ⟨12, rfl, by decide, hb⟩

/-- What Reserve gives: masks that have a core, of those that were free, together the owner's. -/
def GotF (w w' : World) (p b k s q : Nat) (g : Int → Option Sh) (n : Int) (e : Ending) : Prop :=
  ∃ (gm R : Nat) (ms : List (List Nat)) (c : Sh), e = .returned (.tuple #[.slice (some ⟨gm, 0, none⟩) R R, .int .i64 0]) ∧ w.heap.size ≤ gm ∧ Row .u64 40 w' gm ms.flatten ∧ (∀ m ∈ ms, Mk.W4 m) ∧ ms.length = R ∧ R ≤ 32 ∧ c.m = orAll ms ∧ c.t = false ∧ c.m ≠ Mk.zero ∧ (∀ d, d < 256 → Mk.hasB c.m d = true → Mk.hasB (freeM (Mk.ofL (List.range (s * q))) g) d = true) ∧ Turned w w' p b (k + 1) s q (fun m => if m = n then some c else g m)
theorem reserve_in {w : World} {p b k s q : Nat} {g : Int → Option Sh} (h : PoolAt w p b k s q g) (hL : LOk s q) {n : Int} (hn : (Lit.int .i64 n).wf = true) (x0 x1 x2 x3 : Nat) (r pe d : Int) (hk : k < 1000000) : Calls Try.prog 26 #[.pointer (some ⟨p, 0, none⟩), .int .i64 n, .agg #[.int .u64 x0, .int .u64 x1, .int .u64 x2, .int .u64 x3, .int .i64 r, .int .i64 pe, .int .i64 d]] w fun e w' => (∃ er : Int, e = .returned (.tuple #[.slice none 0 0, .int .i64 er]) ∧ er ≠ 0 ∧ Below w.heap.size w w') ∨ GotF w w' p b k s q g n e := by
  cases ho : isOwn n with
  | false =>
    refine (reserve_bad h hn x0 x1 x2 x3 r pe d (fun V => by have := isOwner_any n V; rw [ho] at this; exact this)).mono ?_
    rintro e w' ⟨rfl, hb⟩
    exact .inl ⟨1, rfl, by decide, hb⟩
  | true =>
    have KO : ∀ V : World, Calls Try.prog 45 #[.int .i64 n] V fun e w' => e = .returned (.bool true) ∧ V = w' := fun V => by have := isOwner_any n V; rw [ho] at this; exact this
    cases hg : (g n).isSome with
    | true =>
      refine (reserve_has h hn x0 x1 x2 x3 r pe d KO hg).mono ?_
      rintro e w' ⟨rfl, hb⟩
      exact .inl ⟨14, rfl, by decide, hb⟩
    | false =>
      have hF := freeM_W4 (Mk.ofL (List.range (s * q))) g
      have KF0 : ∀ V : World, PoolAt V p b k s q g → Calls Try.prog 13 #[.pointer (some ⟨p, 0, none⟩)] V fun e w' => e = .returned (.agg (vs .u64 (freeM (Mk.ofL (List.range (s * q))) g))) ∧ Below V.heap.size V w' := fun V hV => free_fix hV hL
      revert KF0 hF
      obtain ⟨F, hFe⟩ : ∃ F, freeM (Mk.ofL (List.range (s * q))) g = F := ⟨_, rfl⟩
      rw [hFe]
      intro hF KF0
      obtain ⟨f0, f1, f2, f3, rfl⟩ : ∃ f0 f1 f2 f3, F = [f0, f1, f2, f3] := ⟨_, _, _, _, Mk.len4 hF.1⟩
      have KF : ∀ V : World, PoolAt V p b k s q g → Calls Try.prog 13 #[.pointer (some ⟨p, 0, none⟩)] V fun e w' => e = .returned (.agg #[.int .u64 f0, .int .u64 f1, .int .u64 f2, .int .u64 f3]) ∧ Below V.heap.size V w' := KF0
      by_cases hd : d = 0 ∨ d = 1
      · obtain ⟨fid, of, hD⟩ : ∃ fid of, IsDist d fid s q of := by
          rcases hd with rfl | rfl
          · exact ⟨84, id, .inl ⟨rfl, rfl, rfl⟩⟩
          · exact ⟨85, cyc s q, .inr ⟨rfl, rfl, rfl⟩⟩
        rcases ROk_or r pe with ⟨a, c, rfl, rfl, hR⟩ | hR
        · by_cases hf : (fr [f0, f1, f2, f3] (upto of (s * q))).length < a * c
          · refine (reserve_few h hn x0 x1 x2 x3 a c d f0 f1 f2 f3 12 (by decide) KO hg KF (fun V => assign_few hD a c f0 f1 f2 f3 V hL hR hF hf)).mono ?_
            rintro e w' ⟨rfl, hb⟩
            exact .inl ⟨12, rfl, by decide, hb⟩
          · have hz : 1 ≤ (wished [f0, f1, f2, f3] of (s * q) (a * c)).length := by
              have := mul_pos' hR
              unfold wished
              rw [List.length_take]
              omega
            have hS := ranks_some hR.1 hR.2.2.1 hz
            have hl := ranks_len (wished [f0, f1, f2, f3] of (s * q) (a * c)) a c
            have hW4 := ranks_W4 (wished [f0, f1, f2, f3] of (s * q) (a * c)) a c
            have hI := fun d => ranks_free (F := [f0, f1, f2, f3]) of (s * q) (a * c) a c (d := d)
            have KA : ∀ V : World, Calls Try.prog 46 #[.agg #[.int .i64 s, .int .i64 q], .agg #[.int .u64 f0, .int .u64 f1, .int .u64 f2, .int .u64 f3, .int .i64 a, .int .i64 c, .int .i64 d]] V (Lays V (ranks (wished [f0, f1, f2, f3] of (s * q) (a * c)) a c) a) := fun V => assign_ok hD a c f0 f1 f2 f3 V hL hR hF (by omega)
            revert hS hl hW4 hI KA
            generalize ranks (wished [f0, f1, f2, f3] of (s * q) (a * c)) a c = ms
            intro hS hl hW4 hI KA
            have hor := orAll_W4 ms hW4
            obtain ⟨a0, a1, a2, a3, ea⟩ : ∃ a0 a1 a2 a3, orAll ms = [a0, a1, a2, a3] := ⟨_, _, _, _, Mk.len4 hor.1⟩
            refine (reserve_ok h hn x0 x1 x2 x3 a c d hk ⟨orAll ms, false, hor⟩ f0 f1 f2 f3 a0 a1 a2 a3 a ms.flatten ea rfl KO hg KF KA (fun V gm hr => by
              have := union_any gm a a ms V (masks_row hr (fun m hm => (hW4 m hm).1)) hW4 hl hR.2.1
              rw [ea] at this
              exact this)).mono ?_
            rintro e w' ⟨gm, rfl, h1, h2, h3⟩
            exact .inr ⟨gm, a, ms, ⟨orAll ms, false, hor⟩, rfl, h1, h2, hW4, hl, hR.2.1, rfl, rfl, hS, fun d _ hx => by rw [hFe]; exact hI d hx, h3⟩
        · refine (reserve_few h hn x0 x1 x2 x3 r pe d f0 f1 f2 f3 1 (by decide) KO hg KF (fun V => assign_arg hD r pe f0 f1 f2 f3 V hL hR)).mono ?_
          rintro e w' ⟨rfl, hb⟩
          exact .inl ⟨1, rfl, by decide, hb⟩
      · refine (reserve_few h hn x0 x1 x2 x3 r pe d f0 f1 f2 f3 1 (by decide) KO hg KF (fun V => assign_no s q d r pe f0 f1 f2 f3 V (fun W => dist_none s q d W hL (by simpa using fun h => hd (.inl h)) (by simpa using fun h => hd (.inr h))))).mono ?_
        rintro e w' ⟨rfl, hb⟩
        exact .inl ⟨1, rfl, by decide, hb⟩
end Go.Proofs.Ythmlibapjhmdbaa
