/- The document's Assign, where the numbers may be. -/
import Derived.Test.YthmlibapjhmdbaaW22
namespace Go.Proofs.Ythmlibapjhmdbaa
open Go.RowKit Go.Shelf
theorem takeM_snoc (ms : List (List Nat)) (k : Nat) (m : List Nat) (h : ms[k]? = some m) : ms.take (k + 1) = ms.take k ++ [m] := by
  have hk := (List.getElem?_eq_some_iff.1 h)
  obtain ⟨hk, he⟩ := hk
  rw [List.take_succ_eq_append_getElem hk, he]


theorem make_part {xs : List Nat} {base gz cap n lo q : Nat} {w : World} (hz : xs.length = n) (hx : ∀ x ∈ xs, x < 256) (hrow : w.ownsRow base 3 1 (.slice (some ⟨gz, 0, none⟩) n cap) n (nv xs)) (hq : lo + q ≤ n) (hl : q ≤ 256) (c2 : Nat) :
    Calls Try.prog 54 #[.slice (some ⟨gz, lo, none⟩) q c2] w fun e w' => e = .returned (.agg #[.int .u64 (Mk.nth (Mk.ofL ((xs.drop lo).take q)) 0 : Nat), .int .u64 (Mk.nth (Mk.ofL ((xs.drop lo).take q)) 1 : Nat), .int .u64 (Mk.nth (Mk.ofL ((xs.drop lo).take q)) 2 : Nat), .int .u64 (Mk.nth (Mk.ofL ((xs.drop lo).take q)) 3 : Nat)]) ∧ Below w.heap.size w w' := by
  have hw := nats_nv hz hrow
  have hsub : ((xs.drop lo).take q).Sublist xs := (List.take_sublist _ _).trans (List.drop_sublist _ _)
  have hx2 : ∀ x ∈ (xs.drop lo).take q, x < 256 := fun x h => hx x (hsub.subset h)
  have hlen : ((xs.drop lo).take q).length = q := by simp; omega
  have hA : NatsAt w w.heap.size (some ⟨gz, lo, none⟩) ((xs.drop lo).take q) := by
    rcases hw with h0 | ⟨ad, h1, h2, h3⟩
    · left; rw [h0]; simp
    · obtain rfl : (⟨gz, 0, none⟩ : Addr) = ad := by injection h1
      refine .inr ⟨_, rfl, h2, fun j hj => ?_⟩
      have hj2 : j < q := by omega
      have e1 : (⟨gz, lo, none⟩ : Addr).add j = (⟨gz, 0, none⟩ : Addr).add (lo + j) := by
        have a1 : (⟨gz, lo, none⟩ : Addr).add j = ⟨gz, lo + j, none⟩ := by unfold Addr.add; split <;> simp_all
        have a2 : (⟨gz, 0, none⟩ : Addr).add (lo + j) = ⟨gz, lo + j, none⟩ := by unfold Addr.add; split <;> simp_all
        rw [a1, a2]
      rw [e1, h3 (lo + j) (by omega)]
      congr 3
      rw [Mk.nth_getElem?, Mk.nth_getElem?, List.getElem?_take, if_pos hj2, List.getElem?_drop]
  have := make_any (some ⟨gz, lo, none⟩) c2 q _ w hA hlen (by omega)
  rw [wds_ofL hx2, vs4 (Mk.ofL_W4 hx2).1] at this
  exact this
/-- The masks of parts of a list. -/
def rk (fs : List Nat) (R Q : Nat) : List (List Nat) := (List.range R).map fun i => Mk.ofL ((fs.drop (i * Q)).take Q)
theorem rk_len (fs : List Nat) (R Q : Nat) : (rk fs R Q).length = R := by simp [rk]
theorem rk_get (fs : List Nat) (R Q k : Nat) (h : k < R) : (rk fs R Q)[k]? = some (Mk.ofL ((fs.drop (k * Q)).take Q)) := by simp [rk, h]
theorem own_ge {w : World} {base e size n g cap : Nat} {xs : List Value} (h : w.ownsRow base e size (.slice (some ⟨g, 0, none⟩) n cap) n xs) : base ≤ g := by
  rcases h.2 with ⟨h0, _⟩ | ⟨_, _, _, h1, h2, _⟩
  · cases h0
  · cases h1; exact h2
/-- What Assign of the document tells. -/
def AsgOut (w : World) (fs : List Nat) (R Q : Nat) (e : Ending) (w' : World) : Prop :=
  (fs.length < R * Q ∧ e = .returned (.tuple #[.slice none 0 0, .int .i64 12]) ∧ Below w.heap.size w w') ∨
  (R * Q ≤ fs.length ∧ ∃ g cap, e = .returned (.tuple #[.slice (some ⟨g, 0, none⟩) R cap, .int .i64 0]) ∧ w.heap.size ≤ g ∧ MasksAt w' w'.heap.size g (rk fs R Q) ∧ Below w.heap.size w w')

set_option maxRecDepth 100000 in
set_option maxHeartbeats 2000000 in
theorem rAssign_in (s p d : Int) (xs : List Nat) (n R Q a b c e : Nat) (w : World) (hd : ∀ W, Calls Try.prog 62 #[.agg #[.int .i64 s, .int .i64 p], .int .i64 d] W (Told W xs n 0)) (hn : xs.length = n) (hl : n ≤ 256) (hx : ∀ x ∈ xs, x < 256) (hr : ROk R Q) (hw : Mk.W4 [a, b, c, e]) :
    Calls Try.prog 51 #[.agg #[.int .i64 s, .int .i64 p], .agg #[.int .u64 a, .int .u64 b, .int .u64 c, .int .u64 e, .int .i64 R, .int .i64 Q, .int .i64 d]] w (AsgOut w (frk [a, b, c, e] xs n) R Q) := by
  have HD := Lib.hid hd
  have HR := Lib.hid hr
  have HN := Lib.hid hn
  have HX := Lib.hid hx
  have HW := Lib.hid hw
  obtain ⟨r1, r2, q1, q2⟩ := hr
  have hRQ := mul_le_8192 HR.out
  clear hd hn hx hw
  obtain ⟨i0, hi, hz0, hz1, hz2⟩ := info_parts info3
  obtain ⟨j0, hj, hy0, hy1, hy2⟩ := info_parts infoB
  have hb0 := ((Below.refl _ w).alloc (Nat.le_refl _) (.cells #[.int .i64 s, .int .i64 p] 23)).alloc (by simp) (.cells #[.int .u64 a, .int .u64 b, .int .u64 c, .int .u64 e, .int .i64 R, .int .i64 Q, .int .i64 d] 37)
  have k1 : Bk ((w.alloc (.cells #[.int .i64 s, .int .i64 p] 23)).alloc (.cells #[.int .u64 a, .int .u64 b, .int .u64 c, .int .u64 e, .int .i64 R, .int .i64 Q, .int .i64 d] 37)) (w.heap.size + 1) 37 #[.int .u64 a, .int .u64 b, .int .u64 c, .int .u64 e, .int .i64 R, .int .i64 Q, .int .i64 d] := by
    have := Bk.new (w.alloc (.cells #[.int .i64 s, .int .i64 p] 23)) 37 #[.int .u64 a, .int .u64 b, .int .u64 c, .int .u64 e, .int .i64 R, .int .i64 Q, .int .i64 d]
    rw [size_alloc] at this
    exact this
  go_enter Try.func51, Try.ntmps51
  go_wp2_with fail
  refine (HD.out _).mono ?_
  rintro e' w2 ⟨A, ca, rfl, hA, hb2⟩
  replace hb0 := bmore hb0 hb2
  replace k1 := k1.next hb2
  clear hb2
  have c4 := k1.cell 4 _ rfl
  have c5 := k1.cell 5 _ rfl
  have t1 : decide ((R : Int) < 1) = false := by simp; omega
  have t2 : decide ((32 : Int) < (R : Int)) = false := by simp; omega
  have t3 : decide ((Q : Int) < 1) = false := by simp; omega
  have t4 : decide ((256 : Int) < (Q : Int)) = false := by simp; omega
  go_wp2_with fail
  clear c4 c5 t1 t2 t3 t4
  have hl1 := k1.lt
  go_loopw [8, 9] (fun o i wr => ∃ k : Nat, k ≤ n ∧ i = .int .i64 k ∧ wr.ownsRow w2.heap.size 3 1 o (frk [a, b, c, e] xs k).length (nv (frk [a, b, c, e] xs k)) ∧ Below w2.heap.size w2 wr)
    (fun _ i _ => n - (intOf i).toNat)
  case atStart => exact ⟨0, Nat.zero_le _, rfl, World.ownsRow_nil _ _ _ _, Below.refl _ _⟩
  case round =>
    obtain ⟨k, hk, rfl, hrow, hb⟩ := hrel
    obtain ⟨O, co, rfl⟩ := own_form hrow
    have hfl := frk_len [a, b, c, e] xs k
    have kb := k1.below hb hl1
    by_cases hlt : k < n
    · have hkx : k < xs.length := by rw [HN.out]; exact hlt
      obtain ⟨ad, rfl, hadb, hca⟩ := (hA.below hb).at_ hkx
      have hy := HX.out _ (nth_mem xs k hkx)
      have RH := Lib.hid (fun W => rHas_in [a, b, c, e] (Mk.nth xs k) W HW.out hy)
      have FH : Hid (Mk.hasB [a, b, c, e] (Mk.nth xs k) = true → frk [a, b, c, e] xs (k + 1) = frk [a, b, c, e] xs k ++ [Mk.nth xs k]) := fun h => frk_hit hkx h
      have FM : Hid (Mk.hasB [a, b, c, e] (Mk.nth xs k) = false → frk [a, b, c, e] xs (k + 1) = frk [a, b, c, e] xs k) := fun h => frk_miss hkx h
      have HKX := Lib.hid hkx
      clear hkx
      generalize Mk.nth xs k = y at *
      have i0' : (0 : Int) ≤ (k : Int) := by omega
      have i1 : (k : Int) < (n : Int) := by omega
      have hadw : ad.block < wr.heap.size := Nat.lt_of_lt_of_le hadb hb.size
      have C0 := In.cell (B := wr.heap.size) kb.lt (kb.cell 0 _ rfl)
      have C1 := In.cell (B := wr.heap.size) kb.lt (kb.cell 1 _ rfl)
      have C2 := In.cell (B := wr.heap.size) kb.lt (kb.cell 2 _ rfl)
      have C3 := In.cell (B := wr.heap.size) kb.lt (kb.cell 3 _ rfl)
      have C4 := In.cell (B := wr.heap.size) (p := ad.add k) (by rw [block_add]; exact hadw) hca
      have hIn := inNonempty wr.heap.size wr
      go_wp2_with fail
      refine region_in wr.heap.size (by kernel_rfl) (by kernel_rfl) ?_
      repeat (go_big_quiet_step ((first | (go_at_call 63; exact Calls.in_of (Nat.le_refl _) (RH.out _)))))
      refine wpQuiet_nil ?_
      intro w3 hb3
      clear C0 C1 C2 C3 C4 hIn
      have hrow3 := own_next hrow hb3
      have hbw := hb.trans (hb3.mono hb.size)
      have hca3 : w3.cell? (ad.add k) = some (.int .i64 (y : Int)) := (hb3.cell (by rw [block_add]; exact hadw)).trans hca
      clear hca
      by_cases hh : Mk.hasB [a, b, c, e] y = true
      · have HH := Lib.hid hh
        have HF := Lib.hid (FH.out hh)
        rw [HH.out]
        clear hh
        have hsz := hbw.size
        go_wp2_with (at_builtin; refine wpList_append_own _ rfl _ _ 44 rfl w2.heap.size 3 i0 (.int .i64 0) 1 8 Try.underlying44 hi hz0 hz1 hz2 rfl (by decide) _ _ _ rfl (hrow3.alloc _) ⟨w3.heap.size, 0, none⟩ 1 1 [.int .i64 (y : Int)] rfl rfl (cell_one_new _ _ _) (by simp [Value.oneCell']) (by unfold maxLen; omega) (by omega) (by simp; omega) ?_; intro v' w4 hown' hgrow _; obtain ⟨g', cap', rfl⟩ := ownsRow_succ hown'; have hb4 := appended_below hrow3 hsz hgrow)
        go_roundw
        case rel => exact ⟨k + 1, by omega, by go_num, by rw [HF.out, nv_snoc, List.length_append]; exact hown', hbw.trans hb4⟩
        case measure => simp [intOf]; omega
      · have hh' : Mk.hasB [a, b, c, e] y = false := by simpa using hh
        have HH := Lib.hid hh'
        have HF := Lib.hid (FM.out hh')
        rw [HH.out]
        clear hh hh'
        go_wp2_with fail
        go_roundw
        case rel => exact ⟨k + 1, by omega, by go_num, by rw [HF.out]; exact hrow3, hbw⟩
        case measure => simp [intOf]; omega
    · obtain rfl : k = n := by omega
      have HFX := Lib.hid (frk_lt (F := [a, b, c, e]) HX.out k)
      generalize frk [a, b, c, e] xs k = fs at *
      obtain ⟨L, hL⟩ : ∃ L, L = fs.length := ⟨_, rfl⟩
      have HLL := Lib.hid hL.symm
      rw [← hL] at hrow hfl ⊢
      clear hL
      obtain ⟨M, hM⟩ : ∃ M, M = R * Q := ⟨_, rfl⟩
      have HMM := Lib.hid hM
      have hmul : (R : Int) * (Q : Int) = (M : Int) := by rw [hM]; simp
      rw [← hM] at hRQ
      clear hM
      have c4 := kb.cell 4 _ rfl
      have c5 := kb.cell 5 _ rfl
      have hbA := hb0.trans (hb.mono hb0.size)
      by_cases hf : L < M
      · have t5 : decide ((L : Int) < (M : Int)) = true := by simp; omega
        go_wp2_with fail
        go_ret2
        exact .inl ⟨by rw [HLL.out, ← HMM.out]; exact hf, rfl, hbA⟩
      · have t5 : decide ((L : Int) < (M : Int)) = false := by simp; omega
        have t6 : decide (L < M) = false := by simp; omega
        have hM1 : 1 ≤ M := by rw [HMM.out]; exact mul_pos' HR.out
        obtain ⟨gz, cz, hO⟩ : ∃ g cap, Value.slice O L co = .slice (some ⟨g, 0, none⟩) L cap := by
          rcases Joins.ownsRow_forms hrow with ⟨_, h0⟩ | h0
          · omega
          · exact h0
        obtain ⟨rfl, rfl⟩ : O = some ⟨gz, 0, none⟩ ∧ co = cz := by injection hO with h1 _ h2; exact ⟨h1, h2⟩
        clear hO
        have hcz := (own_lt hrow).2
        have hgz := (own_lt hrow).1
        go_wp2_with fail
        clear c4 c5
        obtain ⟨Wq, hWq⟩ : ∃ Wq, Wq = wr := ⟨_, rfl⟩
        subst hWq
        have hlb := kb.lt
        go_loopw [10, 11] (fun o i wr => ∃ j : Nat, j ≤ R ∧ i = .int .i64 j ∧ wr.ownsRow Wq.heap.size 35 4 o j (mv ((rk fs R Q).take j)) ∧ Below Wq.heap.size Wq wr)
          (fun _ i _ => R - (intOf i).toNat)
        case atStart => exact ⟨0, Nat.zero_le _, rfl, World.ownsRow_nil _ _ _ _, Below.refl _ _⟩
        case round =>
          obtain ⟨j, hj2, rfl, hrow2, hbj⟩ := hrel
          obtain ⟨O2, c2, rfl⟩ := own_form hrow2
          have kj := kb.below hbj hlb
          have d4 := kj.cell 4 _ rfl
          have d5 := kj.cell 5 _ rfl
          by_cases hlt3 : j < R
          · obtain ⟨lo, hlo⟩ : ∃ lo, lo = j * Q := ⟨_, rfl⟩
            have hm1 : (j : Int) * (Q : Int) = (lo : Int) := by rw [hlo]; simp
            have hm2 : ((j : Int) + 1) * (Q : Int) = (lo : Int) + Q := by rw [Int.add_mul, hm1]; simp
            have hlq : lo + Q ≤ M := by
              have h5 : (j + 1) * Q ≤ R * Q := Nat.mul_le_mul_right Q hlt3
              rw [Nat.add_mul, Nat.one_mul, ← hlo, ← HMM.out] at h5
              exact h5
            have HG : Hid ((rk fs R Q)[j]? = some (Mk.ofL ((fs.drop lo).take Q))) := by show _ = _; rw [rk_get fs R Q j hlt3, hlo]
            have HT := Lib.hid (takeM_snoc _ _ _ HG.out)
            clear hlo
            have hrow1 := own_next hrow hbj
            have hdj : decide ((j : Int) < (R : Int)) = true := by simp; omega
            go_wp2_with fail
            refine (make_part HLL.out HFX.out hrow1 (by omega) q2 _).mono ?_
            rintro e5 w5 ⟨rfl, hb5⟩
            clear hm1 hm2 d4 d5
            generalize Mk.ofL ((fs.drop lo).take Q) = m at *
            have hrow3 := own_next hrow2 hb5
            have hbw := hbj.trans (hb5.mono hbj.size)
            have hsz := hbw.size
            go_wp2_with (at_builtin; refine wpList_append_own _ rfl _ _ 71 rfl Wq.heap.size 35 j0 (.agg #[.int .u64 0, .int .u64 0, .int .u64 0, .int .u64 0]) 4 32 Try.underlying71 hj hy0 hy1 hy2 rfl (by decide) _ _ _ rfl (hrow3.alloc _) ⟨w5.heap.size, 0, none⟩ 1 1 (w4 m) rfl rfl (World.news_of_block (Bk.new w5 35 #[.int .u64 (Mk.nth m 0 : Nat), .int .u64 (Mk.nth m 1 : Nat), .int .u64 (Mk.nth m 2 : Nat), .int .u64 (Mk.nth m 3 : Nat)])) (by simp [w4, Value.oneCell']) (by unfold maxLen; omega) (by omega) (by simp; omega) ?_; intro v' w6 hown' hgrow _; obtain ⟨g', cap', rfl⟩ := ownsRow_succ hown'; have hb6 := appended_below hrow3 hsz hgrow)
            go_roundw
            case rel => exact ⟨j + 1, by omega, by go_num, by rw [HT.out, mv_snoc]; exact hown', hbw.trans hb6⟩
            case measure => simp [intOf]; omega
          · obtain rfl : j = R := by omega
            rw [List.take_of_length_le (by rw [rk_len]; exact Nat.le_refl _)] at hrow2
            obtain ⟨gm, cm, hO2⟩ : ∃ g cap, Value.slice O2 j c2 = .slice (some ⟨g, 0, none⟩) j cap := by
              rcases Joins.ownsRow_forms hrow2 with ⟨_, h0⟩ | h0
              · omega
              · exact h0
            obtain ⟨rfl, rfl⟩ : O2 = some ⟨gm, 0, none⟩ ∧ c2 = cm := by injection hO2 with h1 _ h2; exact ⟨h1, h2⟩
            clear hO2
            go_wp2_with fail
            go_ret2
            exact .inr ⟨by rw [HLL.out, ← HMM.out]; omega, gm, c2, rfl, Nat.le_trans hbA.size (own_ge hrow2), masks_own (rk_len fs j Q) hrow2, hbA.trans (hbj.mono hbA.size)⟩
end Go.Proofs.Ythmlibapjhmdbaa
