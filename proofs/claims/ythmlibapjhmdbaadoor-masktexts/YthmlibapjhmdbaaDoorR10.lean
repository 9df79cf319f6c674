/- The document's Parse. -/
import Derived.Test.YthmlibapjhmdbaaDoorSc
namespace Go.Proofs.YthmlibapjhmdbaaDoor
open Go.RowKit Go.Shelf

theorem num_at (s : ByteArray) (a : Nat) (l : List UInt8) (f : Int) (j y : Nat) (hl : l = (by_ s).drop a) (hn : numOf l = (f, j)) (hy : y = a + j) (hs : s.size ≤ 200) (ha : a ≤ 201) (V : World) :
    Calls Tryd.prog 43 #[.string s, .int .i64 a] V fun e w' => e = .returned (.tuple #[.int .i64 f, .int .i64 y]) ∧ V = w' := by
  have := number_any s a V hs ha
  rw [← hl, hn] at this
  rw [hy]
  exact this
theorem byte_run (s : ByteArray) (y : Nat) (h : y < s.size) (W : World) : (Instr.index 9 (.string s) (.int .i64 (y : Int))).run Tryd.prog W = .ok (.int .u8 (s[y].toNat : Nat)) W := by
  rw [run_index_string W 9 s .i64 (y : Int) Tryd.underlying9, dif_pos ⟨by omega, by omega⟩]
  simp only [Int.toNat_natCast]
theorem byte_list (s : ByteArray) (a j : Nat) (h : a + j < s.size) : ((by_ s).drop a)[j]? = some s[a + j] := by
  rw [List.getElem?_drop]
  have h3 : a + j < (by_ s).length := by rw [by_len]; exact h
  rw [List.getElem?_eq_getElem h3]
  simp [by_]
  rfl

set_option maxRecDepth 100000 in
set_option maxHeartbeats 8000000 in
theorem rParse_any (s : ByteArray) (w : World) (hs : s.size ≤ 200) :
    Calls Tryd.prog 31 #[.string s] w fun e w' => e = .returned (.tuple #[.agg (vs .u64 (parseOf s).1), .int .i64 ((parseOf s).2 : Nat)]) ∧ Below w.heap.size w w' := by
  obtain ⟨i0, hi0, hz0, hz1, hz2⟩ := info_parts info3
  go_enter Tryd.func31, Tryd.ntmps31
  go_wp2_with fail
  go_loopw [4, 5] (fun o i wr => ∃ (a : Nat) (zs : List Int), a ≤ 201 ∧ i = .int .i64 a ∧ zs.length ≤ 257 * a ∧ Read s a zs ∧ wr.ownsRow (w.heap.size + 1) 3 1 o zs.length (iv zs) ∧ Row .u64 24 wr w.heap.size Mk.zero ∧ Below w.heap.size w wr)
    (fun _ i _ => 300 - (intOf i).toNat)
  case atStart => exact ⟨0, [], by omega, rfl, by simp, read_start s, World.ownsRow_nil _ _ _ _, Row.new w .u64 24 Mk.zero _ rfl, (Below.refl _ _).alloc (Nat.le_refl _) _⟩
  case round =>
    obtain ⟨a, zs, ha, rfl, hzl, hR, hrow, r0, hb⟩ := hrel
    have HR := Lib.hid hR
    clear hR
    by_cases hlt : a < s.size
    · obtain ⟨l, hl⟩ : ∃ l, l = (by_ s).drop a := ⟨_, rfl⟩
      have hll : l.length = s.size - a := by rw [hl, List.length_drop, by_len]
      have hle := numOf_le l
      obtain ⟨f, j1, hnum⟩ : ∃ f j1, numOf l = (f, j1) := ⟨_, _, rfl⟩
      rw [hnum] at hle
      simp only at hle
      obtain ⟨y, hy⟩ : ∃ y, y = a + j1 := ⟨_, rfl⟩
      have K1 := Lib.hid (num_at s a l f j1 y hl hnum hy hs ha)
      have HL := Lib.hid hl
      have hay : a ≤ y := by omega
      have hys : y ≤ s.size := by omega
      have hf0 : -1 ≤ f := hle.2.1
      have hf1 : f < 10000 := hle.2.2
      have HLL := Lib.hid hll
      have HJ := Lib.hid hle.1
      have HY := Lib.hid hy
      clear hle hll
      by_cases hsz : s.size ≤ y
      · have t3 : decide ((y : Int) < (s.size : Int)) = false := by simp; omega
        have HS : Hid (scan l = (f, f, j1)) := by
          show _ = _
          unfold scan
          rw [hnum]
          simp only
          rw [if_neg]
          rw [List.getElem?_eq_none (by have := HLL.out; omega)]
          simp
        clear hl hnum hy
        go_wp2_with fail
        refine (K1.out _).mono ?_
        rintro e w1 ⟨rfl, rfl⟩
        go_wp2_with fail
        obtain ⟨Wi, hWi⟩ : ∃ Wi, Wi = wr := ⟨_, rfl⟩
        subst hWi
        go_loopw [4, 9] (fun o c wr => ∃ (i : Nat) (qs : List Int), c = .int .i64 (f + i) ∧ qs = zs ++ (List.range i).map (fun t : Nat => f + (t : Int)) ∧ i ≤ 257 ∧ (i = 0 ∨ (f + i ≤ f + 1 ∧ f + i ≤ 256)) ∧ wr.ownsRow (w.heap.size + 1) 3 1 o qs.length (iv qs) ∧ Row .u64 24 wr w.heap.size Mk.zero ∧ Below w.heap.size w wr)
          (fun _ c _ => (256 - intOf c).toNat)
        case atStart => exact ⟨0, zs, by simp, by simp, by omega, .inl rfl, hrow, r0, hb⟩
        case round =>
          clear hrow r0 hb
          obtain ⟨i, qs, rfl, hqs, hi, hil, hrow, r0, hb⟩ := hrel
          have hq3 : qs.length ≤ 257 * a + 257 := by
            have : qs.length = zs.length + i := by rw [hqs]; simp
            omega
          have hs0 := r0.lt
          by_cases hc : f + (i : Int) ≤ f ∧ f + (i : Int) < 256
          · have t1 : decide (f + (i : Int) ≤ f) = true := by simpa using hc.1
            have t2 : decide (f + (i : Int) < 256) = true := by simpa using hc.2
            have HQ := Lib.hid hqs
            clear hqs
            obtain ⟨A, cap, rfl⟩ := own_form hrow
            have e1 : IntKind.i64.wrap (f + (i : Int) + 1) = f + (i : Int) + 1 := IntWalk.i64_in _ (by omega)
            go_wp2_with (at_builtin; refine wpList_append_own _ rfl _ _ 25 rfl (w.heap.size + 1) 3 i0 (.int .i64 0) 1 8 Tryd.underlying25 hi0 hz0 hz1 hz2 rfl (by decide) _ _ _ rfl (hrow.alloc _) ⟨wr.heap.size, 0, none⟩ 1 1 [.int .i64 (f + (i : Int))] rfl rfl (cell_one_new _ _ _) (by simp [Value.oneCell']) (by unfold maxLen; omega) (by omega) (by simp; omega) ?_; intro v' w9 hown' hgrow _; obtain ⟨g', cap', rfl⟩ := ownsRow_succ hown'; have hb9 := appended_below hrow (by omega) hgrow)
            go_roundw
            case rel =>
              refine ⟨i + 1, qs ++ [f + (i : Int)], by go_num, by rw [HQ.out, List.range_succ, List.map_append]; simp, by omega, .inr (by omega), ?_, r0.below hb9 (by omega), hb.trans (hb9.mono (by omega))⟩
              rw [iv_snoc, List.length_append]
              exact hown'
            case measure => simp [intOf]; omega
          · have hmem : Hid (∀ d : Nat, d < 256 → ((d : Int) ∈ (List.range i).map (fun t : Nat => f + (t : Int)) ↔ f ≤ d ∧ (d : Int) ≤ f)) := by
              intro d hd
              rw [List.mem_map]
              constructor
              · rintro ⟨t, ht, e⟩
                rw [List.mem_range] at ht
                omega
              · intro h
                refine ⟨((d : Int) - f).toNat, ?_, ?_⟩
                · rw [List.mem_range]; omega
                · omega
            have HQ := Lib.hid hqs
            clear hqs
            obtain ⟨A, cap, rfl⟩ := own_form hrow
            have HN : Hid (Read s (y + 1) qs) := by
              have := read_step HR.out hlt (ap := (List.range i).map (fun t : Nat => f + (t : Int))) (by rw [← HL.out, HS.out]; exact hmem.out)
              rw [← HL.out, HS.out, ← HQ.out] at this
              simp only at this
              rw [show a + j1 + 1 = y + 1 by have := HY.out; omega] at this
              exact this
            by_cases hc1 : f + (i : Int) ≤ f
            · have t1 : decide (f + (i : Int) ≤ f) = true := by simpa using hc1
              have t2 : decide (f + (i : Int) < 256) = false := by simp; omega
              go_wp2_with fail
              go_roundw
              case rel => exact ⟨y + 1, qs, by omega, by go_num, by omega, HN.out, hrow, r0, hb⟩
              case measure => simp [intOf]; omega
            · have t1 : decide (f + (i : Int) ≤ f) = false := by simp; omega
              go_wp2_with fail
              go_roundw
              case rel => exact ⟨y + 1, qs, by omega, by go_num, by omega, HN.out, hrow, r0, hb⟩
              case measure => simp [intOf]; omega
      · have hyl : y < s.size := by omega
        have hbr := byte_run s y hyl
        have hbl := byte_list s a j1 (by omega)
        rw [← hl] at hbl
        have e45 : s[a + j1]'(by omega) = s[y] := by subst hy; rfl
        rw [e45] at hbl
        clear e45
        have i3 : (y : Int) < (s.size : Int) := by omega
        by_cases hd : s[y] = 45
        · have e5 : s[y].toNat = 45 := by rw [hd]; rfl
          rw [e5] at hbr
          obtain ⟨g, j2, hnum2⟩ : ∃ g j2, numOf (l.drop (j1 + 1)) = (g, j2) := ⟨_, _, rfl⟩
          have hle2 := numOf_le (l.drop (j1 + 1))
          rw [hnum2, List.length_drop] at hle2
          simp only at hle2
          obtain ⟨z, hz⟩ : ∃ z, z = y + 1 + j2 := ⟨_, rfl⟩
          have hzs : z ≤ s.size := by have := HLL.out; omega
          have hyz : y ≤ z := by omega
          have hg0 : -1 ≤ g := hle2.2.1
          have hg1 : g < 10000 := hle2.2.2
          have HZ := Lib.hid hz
          clear hle2
          have K2 := Lib.hid (fun V => (show Calls Tryd.prog 43 #[.string s, .int .i64 ((y : Int) + 1)] V fun e w' => e = .returned (.tuple #[.int .i64 g, .int .i64 z]) ∧ V = w' from num_at s (y + 1) (l.drop (j1 + 1)) g j2 z (by rw [hl, List.drop_drop, hy, Nat.add_assoc]) hnum2 hz hs (by omega) V))
          have HS : Hid (scan l = (f, g, j1 + 1 + j2)) := by
            show _ = _
            unfold scan
            rw [hnum]
            simp only
            rw [if_pos (by rw [hbl, hd]), hnum2]
          clear hl hnum hnum2 hbl hd e5 hy hz
          go_wp2_with fail
          refine (K1.out _).mono ?_
          rintro e w1 ⟨rfl, rfl⟩
          go_wp2_with fail
          refine (K2.out _).mono ?_
          rintro e w2 ⟨rfl, rfl⟩
          go_wp2_with fail
          obtain ⟨Wi, hWi⟩ : ∃ Wi, Wi = wr := ⟨_, rfl⟩
          subst hWi
          go_loopw [4, 9] (fun o c wr => ∃ (i : Nat) (qs : List Int), c = .int .i64 (f + i) ∧ qs = zs ++ (List.range i).map (fun t : Nat => f + (t : Int)) ∧ i ≤ 257 ∧ (i = 0 ∨ (f + i ≤ g + 1 ∧ f + i ≤ 256)) ∧ wr.ownsRow (w.heap.size + 1) 3 1 o qs.length (iv qs) ∧ Row .u64 24 wr w.heap.size Mk.zero ∧ Below w.heap.size w wr)
            (fun _ c _ => (256 - intOf c).toNat)
          case atStart => exact ⟨0, zs, by simp, by simp, by omega, .inl rfl, hrow, r0, hb⟩
          case round =>
            clear hrow r0 hb
            obtain ⟨i, qs, rfl, hqs, hi, hil, hrow, r0, hb⟩ := hrel
            have hq3 : qs.length ≤ 257 * a + 257 := by
              have : qs.length = zs.length + i := by rw [hqs]; simp
              omega
            have hs0 := r0.lt
            by_cases hc : f + (i : Int) ≤ g ∧ f + (i : Int) < 256
            · have t1 : decide (f + (i : Int) ≤ g) = true := by simpa using hc.1
              have t2 : decide (f + (i : Int) < 256) = true := by simpa using hc.2
              have HQ := Lib.hid hqs
              clear hqs
              obtain ⟨A, cap, rfl⟩ := own_form hrow
              have e1 : IntKind.i64.wrap (f + (i : Int) + 1) = f + (i : Int) + 1 := IntWalk.i64_in _ (by omega)
              go_wp2_with (at_builtin; refine wpList_append_own _ rfl _ _ 25 rfl (w.heap.size + 1) 3 i0 (.int .i64 0) 1 8 Tryd.underlying25 hi0 hz0 hz1 hz2 rfl (by decide) _ _ _ rfl (hrow.alloc _) ⟨wr.heap.size, 0, none⟩ 1 1 [.int .i64 (f + (i : Int))] rfl rfl (cell_one_new _ _ _) (by simp [Value.oneCell']) (by unfold maxLen; omega) (by omega) (by simp; omega) ?_; intro v' w9 hown' hgrow _; obtain ⟨g', cap', rfl⟩ := ownsRow_succ hown'; have hb9 := appended_below hrow (by omega) hgrow)
              go_roundw
              case rel =>
                refine ⟨i + 1, qs ++ [f + (i : Int)], by go_num, by rw [HQ.out, List.range_succ, List.map_append]; simp, by omega, .inr (by omega), ?_, r0.below hb9 (by omega), hb.trans (hb9.mono (by omega))⟩
                rw [iv_snoc, List.length_append]
                exact hown'
              case measure => simp [intOf]; omega
            · have hmem : Hid (∀ d : Nat, d < 256 → ((d : Int) ∈ (List.range i).map (fun t : Nat => f + (t : Int)) ↔ f ≤ d ∧ (d : Int) ≤ g)) := by
                intro d hd
                rw [List.mem_map]
                constructor
                · rintro ⟨t, ht, e⟩
                  rw [List.mem_range] at ht
                  omega
                · intro h
                  refine ⟨((d : Int) - f).toNat, ?_, ?_⟩
                  · rw [List.mem_range]; omega
                  · omega
              have HQ := Lib.hid hqs
              clear hqs
              obtain ⟨A, cap, rfl⟩ := own_form hrow
              have HN : Hid (Read s (z + 1) qs) := by
                have := read_step HR.out hlt (ap := (List.range i).map (fun t : Nat => f + (t : Int))) (by rw [← HL.out, HS.out]; exact hmem.out)
                rw [← HL.out, HS.out, ← HQ.out] at this
                simp only at this
                rw [show a + (j1 + 1 + j2) + 1 = z + 1 by have := HY.out; have := HZ.out; omega] at this
                exact this
              by_cases hc1 : f + (i : Int) ≤ g
              · have t1 : decide (f + (i : Int) ≤ g) = true := by simpa using hc1
                have t2 : decide (f + (i : Int) < 256) = false := by simp; omega
                go_wp2_with fail
                go_roundw
                case rel => exact ⟨z + 1, qs, by omega, by go_num, by omega, HN.out, hrow, r0, hb⟩
                case measure => simp [intOf]; omega
              · have t1 : decide (f + (i : Int) ≤ g) = false := by simp; omega
                go_wp2_with fail
                go_roundw
                case rel => exact ⟨z + 1, qs, by omega, by go_num, by omega, HN.out, hrow, r0, hb⟩
                case measure => simp [intOf]; omega
        · have t4 : ((s[y].toNat : Int) == 45) = false := by
            rw [beq_eq_false_iff_ne]
            intro h
            apply hd
            apply UInt8.toNat_inj.1
            show s[y].toNat = 45
            omega
          have HS : Hid (scan l = (f, f, j1)) := by
            show _ = _
            unfold scan
            rw [hnum]
            simp only
            rw [if_neg]
            rw [hbl]
            intro h
            exact hd (Option.some.inj h)
          clear hl hnum hbl hd hy
          generalize s[y].toNat = b at *
          go_wp2_with fail
          refine (K1.out _).mono ?_
          rintro e w1 ⟨rfl, rfl⟩
          go_wp2_with fail
          obtain ⟨Wi, hWi⟩ : ∃ Wi, Wi = wr := ⟨_, rfl⟩
          subst hWi
          go_loopw [4, 9] (fun o c wr => ∃ (i : Nat) (qs : List Int), c = .int .i64 (f + i) ∧ qs = zs ++ (List.range i).map (fun t : Nat => f + (t : Int)) ∧ i ≤ 257 ∧ (i = 0 ∨ (f + i ≤ f + 1 ∧ f + i ≤ 256)) ∧ wr.ownsRow (w.heap.size + 1) 3 1 o qs.length (iv qs) ∧ Row .u64 24 wr w.heap.size Mk.zero ∧ Below w.heap.size w wr)
            (fun _ c _ => (256 - intOf c).toNat)
          case atStart => exact ⟨0, zs, by simp, by simp, by omega, .inl rfl, hrow, r0, hb⟩
          case round =>
            clear hrow r0 hb
            obtain ⟨i, qs, rfl, hqs, hi, hil, hrow, r0, hb⟩ := hrel
            have hq3 : qs.length ≤ 257 * a + 257 := by
              have : qs.length = zs.length + i := by rw [hqs]; simp
              omega
            have hs0 := r0.lt
            by_cases hc : f + (i : Int) ≤ f ∧ f + (i : Int) < 256
            · have t1 : decide (f + (i : Int) ≤ f) = true := by simpa using hc.1
              have t2 : decide (f + (i : Int) < 256) = true := by simpa using hc.2
              have HQ := Lib.hid hqs
              clear hqs
              obtain ⟨A, cap, rfl⟩ := own_form hrow
              have e1 : IntKind.i64.wrap (f + (i : Int) + 1) = f + (i : Int) + 1 := IntWalk.i64_in _ (by omega)
              go_wp2_with (at_builtin; refine wpList_append_own _ rfl _ _ 25 rfl (w.heap.size + 1) 3 i0 (.int .i64 0) 1 8 Tryd.underlying25 hi0 hz0 hz1 hz2 rfl (by decide) _ _ _ rfl (hrow.alloc _) ⟨wr.heap.size, 0, none⟩ 1 1 [.int .i64 (f + (i : Int))] rfl rfl (cell_one_new _ _ _) (by simp [Value.oneCell']) (by unfold maxLen; omega) (by omega) (by simp; omega) ?_; intro v' w9 hown' hgrow _; obtain ⟨g', cap', rfl⟩ := ownsRow_succ hown'; have hb9 := appended_below hrow (by omega) hgrow)
              go_roundw
              case rel =>
                refine ⟨i + 1, qs ++ [f + (i : Int)], by go_num, by rw [HQ.out, List.range_succ, List.map_append]; simp, by omega, .inr (by omega), ?_, r0.below hb9 (by omega), hb.trans (hb9.mono (by omega))⟩
                rw [iv_snoc, List.length_append]
                exact hown'
              case measure => simp [intOf]; omega
            · have hmem : Hid (∀ d : Nat, d < 256 → ((d : Int) ∈ (List.range i).map (fun t : Nat => f + (t : Int)) ↔ f ≤ d ∧ (d : Int) ≤ f)) := by
                intro d hd
                rw [List.mem_map]
                constructor
                · rintro ⟨t, ht, e⟩
                  rw [List.mem_range] at ht
                  omega
                · intro h
                  refine ⟨((d : Int) - f).toNat, ?_, ?_⟩
                  · rw [List.mem_range]; omega
                  · omega
              have HQ := Lib.hid hqs
              clear hqs
              obtain ⟨A, cap, rfl⟩ := own_form hrow
              have HN : Hid (Read s (y + 1) qs) := by
                have := read_step HR.out hlt (ap := (List.range i).map (fun t : Nat => f + (t : Int))) (by rw [← HL.out, HS.out]; exact hmem.out)
                rw [← HL.out, HS.out, ← HQ.out] at this
                simp only at this
                rw [show a + j1 + 1 = y + 1 by have := HY.out; omega] at this
                exact this
              by_cases hc1 : f + (i : Int) ≤ f
              · have t1 : decide (f + (i : Int) ≤ f) = true := by simpa using hc1
                have t2 : decide (f + (i : Int) < 256) = false := by simp; omega
                go_wp2_with fail
                go_roundw
                case rel => exact ⟨y + 1, qs, by omega, by go_num, by omega, HN.out, hrow, r0, hb⟩
                case measure => simp [intOf]; omega
              · have t1 : decide (f + (i : Int) ≤ f) = false := by simp; omega
                go_wp2_with fail
                go_roundw
                case rel => exact ⟨y + 1, qs, by omega, by go_num, by omega, HN.out, hrow, r0, hb⟩
                case measure => simp [intOf]; omega
    · obtain ⟨A, cap, rfl⟩ := own_form hrow
      have hA := ints_iv rfl hrow
      have HWm := wds_W4 (natsOf zs)
      have HE := Lib.hid (read_end HR.out (by omega) HWm (fun d hd => by rw [wds_has _ _ hd, decide_eq_true_eq, natsOf_mem]))
      have KM := Lib.hid (make_ints A cap zs.length zs wr hA rfl (by omega))
      clear hA hrow
      obtain ⟨m0, m1, m2, m3, hm⟩ := HWm.four
      rw [hm] at HWm HE KM
      have KM2 := Lib.hid (show Calls Tryd.prog 37 #[.slice A zs.length cap] wr fun e w' => e = .returned (.agg #[.int .u64 m0, .int .u64 m1, .int .u64 m2, .int .u64 m3]) ∧ Below wr.heap.size wr w' from KM.out)
      clear hm KM
      have KT := Lib.hid (fun V => rText_any m0 m1 m2 m3 V HWm)
      have hz4 := Lib.hid (info40 HWm.1)
      have hzz := Lib.hid (info40 Mk.W4.zero.1)
      clear HWm
      go_wp2_with fail
      refine KM2.out.mono ?_
      rintro e w2 ⟨rfl, hb2⟩
      replace r0 := r0.next hb2
      replace hb := bmore hb hb2
      clear hb2 KM2
      have hx : Below w2.heap.size w2 (w2.alloc (.cells #[.int .u64 m0, .int .u64 m1, .int .u64 m2, .int .u64 m3] 24)) := (Below.refl _ _).alloc (Nat.le_refl _) _
      have j9 := Bk.new w2 24 #[.int .u64 m0, .int .u64 m1, .int .u64 m2, .int .u64 m3]
      replace r0 := r0.next hx
      replace hb := bmore hb hx
      clear hx
      go_wp2_with fail
      refine (KT.out _).mono ?_
      rintro e w3 ⟨rfl, hb2⟩
      replace r0 := r0.next hb2
      replace j9 := j9.next hb2
      replace hb := bmore hb hb2
      clear hb2 KT
      rcases HE.out with ⟨ht, hp⟩ | ⟨ht, hp⟩
      · have HPP := Lib.hid hp
        rw [ht]
        clear HE ht hp
        have j9r : Row .u64 24 w3 w2.heap.size [m0, m1, m2, m3] := j9
        go_wp2_with (first | (refine load_w rfl 24 _ rfl w2.heap.size .u64 [m0, m1, m2, m3] rfl 24 _ j9r Tryd.underlying24 rfl hz4.out ?_) | (refine store_law rfl 24 _ _ rfl w.heap.size .u64 Mk.zero [m0, m1, m2, m3] rfl rfl 24 r0 rfl hz4.out ?_; intro w7 hw7))
        exact bodyPost_ret (results_row_tmp rfl _ _ w.heap.size .u64 24 _ _ rfl (r0.hidSet hw7) Tryd.underlying24 rfl hz4.out) rfl ⟨by rw [HPP.out]; rfl, below_hidSet hb hw7 (by omega)⟩
      · have HPP := Lib.hid hp
        have t9 : ((textOf [m0, m1, m2, m3] (S [m0, m1, m2, m3])).toList == s.toList) = false := by
          rw [beq_eq_false_iff_ne, by_toList, by_toList]
          exact fun h => ht (by_inj h)
        clear HE ht hp
        generalize textOf [m0, m1, m2, m3] (S [m0, m1, m2, m3]) = T at *
        go_wp2_with (refine store_law rfl 24 _ _ rfl w.heap.size .u64 Mk.zero Mk.zero rfl rfl 24 r0 rfl hzz.out ?_; intro w7 hw7)
        exact bodyPost_ret (results_row_tmp rfl _ _ w.heap.size .u64 24 _ _ rfl (r0.hidSet hw7) Tryd.underlying24 rfl hzz.out) rfl ⟨by rw [HPP.out]; rfl, below_hidSet hb hw7 (by omega)⟩
end Go.Proofs.YthmlibapjhmdbaaDoor
