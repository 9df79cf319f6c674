/- The law CoresOrder, walked. -/
import Derived.Test.YteggadafcedojaaW13
namespace Go.Proofs.Yteggadafcedojaa
open Go.RowKit Go.Shelf

attribute [local go_sem] eq33 eq40

theorem inNonempty (B : Nat) (w : World) : Nonempty (In B w) := ⟨⟨w, Below.refl _ _⟩⟩

theorem dist_or (d : Int) (s p : Nat) : (∃ fid of, IsDist d fid s p of) ∨ ((d == 0) = false ∧ (d == 1) = false) := by
  by_cases h0 : d = 0
  · exact .inl ⟨_, _, .inl ⟨h0, rfl, rfl⟩⟩
  · by_cases h1 : d = 1
    · exact .inl ⟨_, _, .inr ⟨h1, rfl, rfl⟩⟩
    · exact .inr ⟨by simpa using h0, by simpa using h1⟩

set_option maxRecDepth 100000 in
set_option maxHeartbeats 1000000 in
theorem coresOrder_no (s p d : Int) (w : World) (hd : ∀ W, Calls Try.prog 29 #[.agg #[.int .i64 s, .int .i64 p], .int .i64 d] W fun e w' => e = .returned (.tuple #[.agg #[.nilFunc], .int .i64 1]) ∧ Below W.heap.size W w') :
    Calls Try.prog 6 #[.agg #[.int .i64 s, .int .i64 p], .int .i64 d] w fun e w' => e = .returned (.bool true) ∧ Below w.heap.size w w' := by
  have HD := Lib.hid hd
  clear hd
  have hb0 := (Below.refl _ w).alloc (Nat.le_refl _) (.cells #[.int .i64 s, .int .i64 p] 23)
  go_enter Try.func6, Try.ntmps6
  go_wp2_with fail
  refine (own_any s p _).mono ?_
  rintro e w1 ⟨rfl, hb1⟩
  replace hb0 := bmore hb0 hb1
  clear hb1
  go_wp2_with fail
  refine (order_no s p d _ HD.out).mono ?_
  rintro e w2 ⟨rfl, hb2⟩
  replace hb0 := bmore hb0 hb2
  clear hb2
  go_wp2_with fail
  refine (live_any _).mono ?_
  rintro e w3 ⟨rfl, hb3⟩
  replace hb0 := bmore hb0 hb3
  clear hb3
  go_wp2_with fail
  go_ret
  exact ⟨rfl, hb0⟩

theorem dist_onto {d : Int} {fid s p : Nat} {of : Nat → Nat} (hd : IsDist d fid s p of) (h : LOk s p) {c : Nat} (hc : c < s * p) : ∃ k, k < s * p ∧ of k = c := by
  rcases hd with ⟨_, _, rfl⟩ | ⟨_, _, rfl⟩
  · exact ⟨c, hc, rfl⟩
  · have hp : 0 < p := h.2.2.1
    have h1 : c / p < s := Nat.div_lt_of_lt_mul (by rw [Nat.mul_comm]; exact hc)
    have h2 : c % p < p := Nat.mod_lt _ hp
    refine ⟨c % p * s + c / p, place_lt s p _ _ h1 h2, ?_⟩
    rw [cyc_at s p _ _ h1, Nat.mul_comm]
    exact Nat.div_add_mod c p
theorem cyc_parts {s p k : Nat} (_hs : 1 ≤ s) (hk : k < s * p) : cyc s p k / p = k % s ∧ cyc s p k % p = k / s := by
  have hp : 0 < p := by rcases Nat.eq_zero_or_pos p with h0 | h0 <;> simp_all
  have hd : k / s < p := Nat.div_lt_of_lt_mul hk
  unfold cyc
  rw [Nat.mul_comm (k % s) p]
  exact ⟨by rw [Nat.mul_add_div hp, Nat.div_eq_of_lt hd]; rfl, by rw [Nat.mul_add_mod, Nat.mod_eq_of_lt hd]⟩
theorem mod_step {s k : Nat} (hs : 1 < s) (hk : 1 ≤ k) : k % s ≠ (k - 1) % s := by
  obtain ⟨j, rfl⟩ : ∃ j, k = j + 1 := ⟨k - 1, by omega⟩
  rw [Nat.add_sub_cancel]
  intro e
  have h1 := Nat.div_add_mod (j + 1) s
  have h2 := Nat.div_add_mod j s
  rw [e] at h1
  have h3 : s * ((j + 1) / s) = s * (j / s) + 1 := by omega
  have h4 : (s * ((j + 1) / s)) % s = (s * (j / s) + 1) % s := by rw [h3]
  rw [Nat.mul_mod_right, Nat.mul_add_mod, Nat.mod_eq_of_lt hs] at h4
  cases h4
theorem order_mask {d : Int} {fid s p : Nat} {of : Nat → Nat} (hd : IsDist d fid s p of) (h : LOk s p) : Mk.ofL ((upto of (s * p)).map (·.1)) = Mk.ofL (List.range (s * p)) := by
  have h5 := h.2.2.2.2
  have hlt : ∀ x ∈ (upto of (s * p)).map (·.1), x < 256 := core_lt _
  refine Mk.ext (Mk.ofL_W4 hlt) (range_W4 h5) fun c _ => ?_
  rw [Mk.has_ofL hlt, range_has h5]
  have hv := dist_vals hd h
  rw [hv]
  have hsub : ∀ x ∈ (List.range (s * p)).map of, x < s * p := by
    intro x hx
    obtain ⟨k, hk, rfl⟩ := List.mem_map.1 hx
    exact (dist_of hd h).1 k (List.mem_range.1 hk)
  rw [Bool.eq_iff_iff]
  simp only [decide_eq_true_eq]
  constructor
  · exact hsub c
  · intro hc
    obtain ⟨k, hk, rfl⟩ := dist_onto hd h hc
    exact List.mem_map.2 ⟨k, List.mem_range.2 hk, rfl⟩

theorem of_full {zs : List Core} {base n cap : Nat} {A : Option Addr} {w : World} (hz : zs.length = n) (hrow : w.ownsRow base 3 1 (.slice A n cap) n (cv zs)) (hn : (zs.map (·.1)).Nodup) (hl : n ≤ 65536) :
    Calls Try.prog 28 #[.slice A n cap] w fun e w' => e = .returned (.tuple #[.agg #[.int .u64 (Mk.nth (Mk.ofL (zs.map (·.1))) 0 : Nat), .int .u64 (Mk.nth (Mk.ofL (zs.map (·.1))) 1 : Nat), .int .u64 (Mk.nth (Mk.ofL (zs.map (·.1))) 2 : Nat), .int .u64 (Mk.nth (Mk.ofL (zs.map (·.1))) 3 : Nat)], .int .i64 0]) ∧ Below w.heap.size w w' := by
  subst hz
  have hA := nats_whole hrow
  have := of_ok A cap _ w hA (core_lt zs) hn (by simp; unfold maxLen; omega)
  rw [List.length_map, vs4 (Mk.ofL_W4 (core_lt zs)).1] at this
  exact this
theorem nth_range (of : Nat → Nat) (N k : Nat) (h : k < N) : Mk.nth ((List.range N).map of) k = of k := by simp [Mk.nth, h]
theorem call_ok4 (s p : Nat) (w : World) (h : LOk s p) :
    Calls Try.prog 11 #[.agg #[.int .i64 s, .int .i64 p]] w fun e w' => e = .returned (.agg #[.int .u64 (Mk.nth (Mk.ofL (List.range (s * p))) 0 : Nat), .int .u64 (Mk.nth (Mk.ofL (List.range (s * p))) 1 : Nat), .int .u64 (Mk.nth (Mk.ofL (List.range (s * p))) 2 : Nat), .int .u64 (Mk.nth (Mk.ofL (List.range (s * p))) 3 : Nat)]) ∧ Below w.heap.size w w' := by
  have := call_ok s p w h
  rw [vs4 (range_W4 h.2.2.2.2).1] at this
  exact this

set_option maxRecDepth 100000 in
set_option maxHeartbeats 1000000 in
theorem coresOrder_ok {d : Int} {fid s p : Nat} {of : Nat → Nat} (hd : IsDist d fid s p of) (w : World) (h : LOk s p) :
    Calls Try.prog 6 #[.agg #[.int .i64 s, .int .i64 p], .int .i64 d] w fun e w' => e = .returned (.bool true) ∧ Below w.heap.size w w' := by
  have HD := Lib.hid hd
  have H := Lib.hid h
  have HV := Lib.hid (dist_vals hd h)
  have HU := Lib.hid (dist_nodup hd h)
  have HM := Lib.hid (order_mask hd h)
  have h5 := h.2.2.2.2
  clear hd h
  have HL : Hid ((upto of (s * p)).length = s * p) := upto_length of _
  have hb0 := (Below.refl _ w).alloc (Nat.le_refl _) (.cells #[.int .i64 s, .int .i64 p] 23)
  have k0 := Bk.new w 23 #[.int .i64 s, .int .i64 p]
  go_enter Try.func6, Try.ntmps6
  go_wp2_with fail
  refine (own_any s p _).mono ?_
  rintro e w1 ⟨rfl, hb1⟩
  replace k0 := k0.next hb1
  replace hb0 := bmore hb0 hb1
  clear hb1
  go_wp2_with fail
  refine (order_ok HD.out _ H.out).mono ?_
  rintro e w2 ⟨v, rfl, hrow, hb2⟩
  rw [HL.out] at hrow
  replace k0 := k0.next hb2
  replace hb0 := bmore hb0 hb2
  clear hb2
  obtain ⟨A, ca, rfl⟩ := own_form hrow
  have hOf := Lib.hid (of_full HL.out hrow HU.out (by omega))
  have hA : NatsAt w2 w2.heap.size A ((upto of (s * p)).map (·.1)) := nats_whole (by rw [HL.out]; exact hrow)
  rw [HV.out] at hA
  clear hrow
  go_wp2_with fail
  refine hOf.out.mono ?_
  rintro e w3 ⟨rfl, hb3⟩
  rw [HM.out]
  replace k0 := k0.next hb3
  replace hb0 := bmore hb0 hb3
  replace hA := (hA.below hb3).more hb3.size
  clear hb3 hOf
  have HA4 := Lib.hid (fun W => call_ok4 s p W H.out)
  generalize Mk.ofL (List.range (s * p)) = m at *
  have hlw := k0.lt
  replace k0 := k0.alloc (.cells #[.int .u64 (Mk.nth m 0 : Nat), .int .u64 (Mk.nth m 1 : Nat), .int .u64 (Mk.nth m 2 : Nat), .int .u64 (Mk.nth m 3 : Nat)] 33)
  have km := Bk.new w3 33 #[.int .u64 (Mk.nth m 0 : Nat), .int .u64 (Mk.nth m 1 : Nat), .int .u64 (Mk.nth m 2 : Nat), .int .u64 (Mk.nth m 3 : Nat)]
  replace hA : NatsAt (w3.alloc (.cells #[.int .u64 (Mk.nth m 0 : Nat), .int .u64 (Mk.nth m 1 : Nat), .int .u64 (Mk.nth m 2 : Nat), .int .u64 (Mk.nth m 3 : Nat)] 33)) w3.heap.size A ((List.range (s * p)).map of) := hA.below ((Below.refl _ _).alloc (Nat.le_refl _) _)
  replace hb0 := hb0.alloc hb0.size (.cells #[.int .u64 (Mk.nth m 0 : Nat), .int .u64 (Mk.nth m 1 : Nat), .int .u64 (Mk.nth m 2 : Nat), .int .u64 (Mk.nth m 3 : Nat)] 33)
  obtain ⟨N, hN⟩ : ∃ N, N = s * p := ⟨_, rfl⟩
  have HN := Lib.hid hN
  rw [← hN] at hA h5 ⊢
  clear hN
  have hN1 : 1 ≤ N := by
    have := Nat.mul_pos (show 0 < s from H.out.1) (show 0 < p from H.out.2.2.1)
    rw [← HN.out] at this; exact this
  go_wp2_with fail
  generalize w3.alloc (.cells #[.int .u64 (Mk.nth m 0 : Nat), .int .u64 (Mk.nth m 1 : Nat), .int .u64 (Mk.nth m 2 : Nat), .int .u64 (Mk.nth m 3 : Nat)] 33) = W0 at *
  replace hA := hA.more (B' := W0.heap.size) (by have := km.lt; omega)
  go_loopw [9] (fun i wr => ∃ k : Nat, 1 ≤ k ∧ k ≤ N ∧ i = .int .i64 k ∧ Below W0.heap.size W0 wr)
    (fun i _ => N - (intOf i).toNat)
  case atStart => exact ⟨1, Nat.le_refl _, hN1, rfl, Below.refl _ _⟩
  case round =>
    obtain ⟨k, hk1, hk, rfl, hb⟩ := hrel
    have kb := k0.below hb k0.lt
    have kmb := km.below hb km.lt
    by_cases hlt : k < N
    · obtain ⟨ad, rfl, hadb, hca⟩ := (hA.below hb).at_ (k := k) (by simpa using hlt)
      obtain ⟨ad', e', _, hca'⟩ := (hA.below hb).at_ (k := k - 1) (by simp; omega)
      obtain rfl : ad = ad' := by injection e'
      rw [nth_range of N k hlt] at hca
      rw [nth_range of N (k - 1) (by omega)] at hca'
      clear e'
      rcases HD.out with ⟨rfl, _, rfl⟩ | ⟨rfl, _, rfl⟩
      · have i1 : (k : Int) < (N : Int) := by omega
        have i2 : (0 : Int) ≤ (k : Int) - 1 := by omega
        have i3 : (k : Int) - 1 < (N : Int) := by omega
        have i4 : ((k : Int) - 1).toNat = k - 1 := by omega
        have i5 : IntKind.i64.wrap ((k : Int) - 1) = (k : Int) - 1 := IntWalk.i64_in _ (by omega)
        have i6 : ((k - 1 : Nat) : Int) = (k : Int) - 1 := by omega
        have i7 : IntKind.i64.wrap (k : Int) = (k : Int) := IntWalk.i64_in _ (by omega)
        simp only [id] at hca hca'
        rw [i6] at hca'
        clear i6
        go_wp2_with fail
        go_quiet (fail)
        go_wp2_with fail
        go_quiet (fail)
        go_wp2_with fail
        go_roundw
        case rel => exact ⟨k + 1, by omega, by omega, by go_num, below_drewN' hb _⟩
        case measure => simp [intOf]; omega
      · have i1 : (k : Int) < (N : Int) := by omega
        have i2 : (0 : Int) ≤ (k : Int) - 1 := by omega
        have i3 : (k : Int) - 1 < (N : Int) := by omega
        have i4 : ((k : Int) - 1).toNat = k - 1 := by omega
        have i5 : IntKind.i64.wrap ((k : Int) - 1) = (k : Int) - 1 := IntWalk.i64_in _ (by omega)
        have c0 := kb.cell 0 _ rfl
        have c1 := kb.cell 1 _ rfl
        by_cases hs : 1 < s
        · have hs' : (1 : Int) < (s : Int) := by omega
          have q1 : cyc s p k < s * p := cyc_lt2 H.out.1 (by rw [← HN.out]; exact hlt)
          have q2 : cyc s p (k - 1) < s * p := cyc_lt2 H.out.1 (by rw [← HN.out]; omega)
          have hne : cyc s p k / p ≠ cyc s p (k - 1) / p := by
            rw [(cyc_parts H.out.1 (by rw [← HN.out]; exact hlt)).1, (cyc_parts H.out.1 (by rw [← HN.out]; omega)).1]
            exact mod_step hs hk1
          have S1 := Lib.hid (fun W => socket_in s p (cyc s p k) W H.out q1)
          have S2 := Lib.hid (fun W => socket_in s p (cyc s p (k - 1)) W H.out q2)
          have hq : (((cyc s p k / p : Nat) : Int) == ((cyc s p (k - 1) / p : Nat) : Int)) = false := by rw [beq_eq_false_iff_ne]; exact fun e => hne (Int.ofNat.inj e)
          have hq2 : (cyc s p k / p == cyc s p (k - 1) / p) = false := by simpa using hne
          clear q1 q2 hne
          generalize cyc s p k / p = x1 at *
          generalize cyc s p (k - 1) / p = x2 at *
          generalize cyc s p k = y1 at *
          generalize cyc s p (k - 1) = y2 at *
          go_wp2_with fail
          have C0 := In.cell (B := wr.heap.size) kb.lt c0
          have C1 := In.cell (B := wr.heap.size) kb.lt c1
          have hadw : ad.block < wr.heap.size := Nat.lt_of_lt_of_le hadb hb.size
          have C2 := In.cell (B := wr.heap.size) (p := ad.add k) (by rw [block_add]; exact hadw) hca
          have C3 := In.cell (B := wr.heap.size) (p := ad.add (k - 1)) (by rw [block_add]; exact hadw) hca'
          have hIn := inNonempty wr.heap.size wr
          refine region_in wr.heap.size (by kernel_rfl) (by kernel_rfl) ?_
          repeat (go_big_quiet_step ((first | (go_at_call 9; exact Calls.in_of (Nat.le_refl _) (own_any _ _ _)) | (go_at_call 15; with_reducible exact Calls.in_of (Nat.le_refl _) (S1.out _)) | (go_at_call 15; with_reducible exact Calls.in_of (Nat.le_refl _) (S2.out _)))))
          refine wpQuiet_nil ?_
          intro w4 hb4
          clear C0 C1 C2 C3 c0 c1 hca hca'
          have hb44 := hb.trans (hb4.mono hb.size)
          go_wp2_with fail
          go_quiet (fail)
          go_wp2_with fail
          go_roundw
          case rel => exact ⟨k + 1, by omega, by omega, by go_num, below_drewN' hb44 _⟩
          case measure => simp [intOf]; omega
        · have hs1 : s = 1 := by have := H.out.1; omega
          have hg1 : decide ((1 : Int) < (s : Int)) = false := by simp; omega
          have hg2 : decide (1 < s) = false := by simp; omega
          have hg3 : ¬ (1 : Int) < (s : Int) := by omega
          have HS1 := Lib.hid hs1
          clear hs1
          go_wp2_with fail
          go_quiet (fail)
          go_wp2_with fail
          go_quiet (fail)
          go_wp2_with fail
          go_roundw
          case rel => exact ⟨k + 1, by omega, by omega, by go_num, below_drewN' hb _⟩
          case measure => simp [intOf]; omega
    · obtain rfl : k = N := by omega
      have c0 := kb.cell 0 _ rfl
      have c1 := kb.cell 1 _ rfl
      have m0 := kmb.cell 0 _ rfl
      have m1 := kmb.cell 1 _ rfl
      have m2 := kmb.cell 2 _ rfl
      have m3 := kmb.cell 3 _ rfl
      go_wp2_with fail
      have C0 := In.cell (B := wr.heap.size) kb.lt c0
      have C1 := In.cell (B := wr.heap.size) kb.lt c1
      have M0 := In.cell (B := wr.heap.size) kmb.lt m0
      have M1 := In.cell (B := wr.heap.size) kmb.lt m1
      have M2 := In.cell (B := wr.heap.size) kmb.lt m2
      have M3 := In.cell (B := wr.heap.size) kmb.lt m3
      have hIn := inNonempty wr.heap.size wr
      refine region_in wr.heap.size (by kernel_rfl) (by kernel_rfl) ?_
      repeat (go_big_quiet_step ((first | (go_at_call 9; exact Calls.in_of (Nat.le_refl _) (own_any _ _ _)) | (go_at_call 11; exact Calls.in_of (Nat.le_refl _) (HA4.out _)) | (go_at_call 18; exact Calls.in_of (Nat.le_refl _) (live_any _)))))
      refine wpQuiet_nil ?_
      intro w4 hb4
      clear C0 C1 M0 M1 M2 M3 c0 c1 m0 m1 m2 m3
      have hb44 := hb.trans (hb4.mono hb.size)
      go_wp2_with fail
      go_ret
      exact ⟨rfl, hb0.trans (hb44.mono hb0.size)⟩
end Go.Proofs.Yteggadafcedojaa
