/- The document's net: Send. -/
import Derived.Test.YtlhfijjjfolldaaC3
namespace Go.Proofs.Ytlhfijjjfolldaa
open Go.RowKit Go.Maps

set_option maxRecDepth 100000 in
set_option maxHeartbeats 16000000 in
theorem rsend_any {w : World} {r cap : Nat} {m k : Int} {A : Option Addr} {l : List Str} (h : Rt w r m A cap l k) (B : Option Addr) (n cb : Nat) (zs : List Str) (hz : Tl w B n cb zs) (hn50 : n ≤ 1000) (hr : ∀ ad, B = some ad → ad.block ≠ r ∨ zs = []) (k0 : 0 ≤ k) (k1 : k ≤ 1000000000) :
    Calls Try.prog 21 #[.pointer (some ⟨r, 0, none⟩), .slice B n cb] w fun e w' => e = .returned (.int .i64 (ldN l m zs : Nat)) ∧ ∃ A' cap', Rt w' r m A' cap' (l ++ zs.take (ldN l m zs)) (k + (zs.length - ldN l m zs : Nat)) ∧ Rn w w' r A A' := by
  have H0 := Lib.hid h
  have HZ := Lib.hid hz
  have HR := Lib.hid hr
  have hfit := h.fit
  have hm1 := h.m1
  have hm2 := h.m2
  obtain ⟨q, hq⟩ : ∃ q : Nat, q = m.toNat - l.length := ⟨_, rfl⟩
  have HQ := Lib.hid (show ldN l m zs = min n q from by rw [ldN, hz.len, hq])
  have hqm : (l.length : Int) + (q : Int) = m := by omega
  clear h hz hr hq
  go_enter Try.func21, Try.ntmps21
  go_wp2_with fail
  go_loopg [5, 6] n (fun g s5 s6 wr => ∃ (a d : Nat) (Aa : Option Addr) (ca : Nat) (L : List Str), a + g = n ∧ s6 = .int .i64 a ∧ s5 = .int .i64 d ∧ Hid (d = min a q) ∧ Hid (L = l ++ zs.take d) ∧ Hid (Rt wr r m Aa ca L (k + ((a - d : Nat) : Int))) ∧ Hid (Rn w wr r A Aa))
  case atStart => exact ⟨0, 0, A, cap, l, by omega, rfl, rfl, Lib.hid (by omega), Lib.hid (by simp), by simpa using H0, Lib.hid (Rn.same (Below.refl _ _))⟩
  case round =>
    obtain ⟨a, d, Aa, ca, L, hag, rfl, rfl, HD, HL, H, N⟩ := hrel
    have hd := HD.out
    have hLl : L.length = l.length + d := by
      rw [HL.out, List.length_append, List.length_take, HZ.out.len]
      omega
    have HLl := Lib.hid hLl
    have hlen := H.out.len
    cases gk with
    | zero =>
      obtain rfl : a = n := by omega
      have hlt : ¬ ((a : Int) < (a : Int)) := by omega
      have ED := Lib.hid (show ldN l m zs = d from by rw [HQ.out, hd])
      have EZ := Lib.hid (show zs.length - d = a - d from by rw [HZ.out.len])
      have H9 : Hid (Rt wr r m Aa ca (l ++ zs.take d) (k + ((a - d : Nat) : Int))) := by rw [← HL.out]; exact H
      clear hd hLl
      go_wp2_with fail
      go_ret
      exact ⟨by rw [ED.out]; rfl, Aa, ⟨ca, by rw [ED.out, EZ.out]; exact H9.out⟩, N.out⟩
    | succ g1 =>
      have p0 : (0 : Int) ≤ (a : Int) := by omega
      have p1 : (a : Int) < (n : Int) := by omega
      obtain ⟨x, ex⟩ : ∃ x, zs[a]? = some x := ⟨_, List.getElem?_eq_getElem (by have := HZ.out.len; omega)⟩
      obtain ⟨ob, rfl, hob, cx0⟩ := HZ.out.at_.at_ ex
      have hobr : ob.block ≠ r := (HR.out ob rfl).resolve_right (fun e => by rw [e] at ex; simp at ex)
      have cx : wr.cell? (ob.add a) = some (.string x) := (World.cell?_of_block (by rw [block_add]; exact N.out.grown.block _ hob (by simpa using hobr))).trans cx0
      have hob2 : ob.block < wr.heap.size := Nat.lt_of_lt_of_le hob N.out.grown.size
      have EX := Lib.hid ex
      clear ex cx0 hob hobr
      have c0 := H.out.blk.cell 0 _ rfl
      have c1 := H.out.blk.cell 1 _ rfl
      by_cases haq : a < q
      · obtain rfl : d = a := by omega
        have HE := Lib.hid (show L ++ [x] = l ++ zs.take (d + 1) from by rw [HL.out, List.take_add_one, EX.out]; simp)
        have t7 : decide ((L.length : Int) < m) = true := decide_eq_true (by omega)
        have hka : (k + ((d + 1 - (d + 1) : Nat) : Int)) = k + ((d - d : Nat) : Int) := by omega
        have HKA := Lib.hid hka
        have hfitL : ((L ++ [x]).length : Int) ≤ m := by rw [List.length_append]; simp; omega
        clear hd hLl hka
        go_upto_region 5 with fail
        refine region_still (by kernel_rfl) (by kernel_rfl) (fun w5 hw5 => ?_)
        have L5 : Hid (Below wr.heap.size wr w5) := below_hid (Below.refl _ _) hw5
        have H5 := Lib.hid (H.out.next L5.out)
        replace c0 := H5.out.blk.cell 0 _ rfl
        replace c1 := H5.out.blk.cell 1 _ rfl
        replace cx := (L5.out.cell (p := ob.add d) (by rw [block_add]; exact hob2)).trans cx
        replace hob2 := Nat.lt_of_lt_of_le hob2 L5.out.size
        clear hw5
        repeat still_step
        refine wpStill_nil ?_
        clear c0 t7
        go_wp2_with fail
        have hbl := H5.out.blk.lt
        let SS : World → Prop := fun W => W.cell? ⟨r, 1, none⟩ = some (.slice Aa L.length ca) ∧ W.cell? (ob.add d) = some (.string x)
        have hS : ∀ W, Below w5.heap.size w5 W → SS W := fun W hW => ⟨(hW.cell (p := ⟨r, 1, none⟩) hbl).trans c1, (hW.cell (p := ob.add d) (by rw [block_add]; exact hob2)).trans cx⟩
        have s0 : SS w5.drew := hS _ (Below.refl _ _).drew
        have HLN := Lib.hid (show (L ++ [x]).length = L.length + 1 from by simp)
        have HLD := Lib.hid (fun A' c' w1 (hb : Below w5.heap.size w5 w1) hr => H5.out.laid (A' := A') (cap' := c') (l' := L ++ [x]) hb hr hfitL)
        have N5 := Lib.hid (N.out.trans (Rn.same L5.out))
        have HDD : Hid (d + 1 = min (d + 1) q) := Lib.hid (by omega)
        refine wp_region_z SS (fun j => j == 15) (by kernel_rfl) ?_
        refine wpAnyZ_take (fuel := 15) (i := 0) rfl (by kernel_rfl) (by kernel_rfl) (by kernel_rfl) (by kernel_rfl) (fun _ _ _ h => h) (Or.inl ⟨by rfl, fun V hV => by obtain ⟨g1, g2⟩ := hV; go_simp; rfl⟩) s0 ?_
        try simp only [Act.put, List.setIfInBounds_toArray]
        refine wpAnyZ_take (fuel := 14) (i := 2) rfl (by kernel_rfl) (by kernel_rfl) (by kernel_rfl) (by kernel_rfl) (fun _ _ _ h => h) (Or.inl ⟨by rfl, fun V hV => by obtain ⟨g1, g2⟩ := hV; go_simp; rfl⟩) s0 ?_
        try simp only [Act.put]
        refine wpAnyZ_take (fuel := 13) (i := 3) rfl (by kernel_rfl) (by kernel_rfl) (by kernel_rfl) (by kernel_rfl) (fun _ _ _ h => h) (Or.inl ⟨by rfl, fun V hV => by obtain ⟨g1, g2⟩ := hV; go_simp; rfl⟩) s0 ?_
        try simp only [Act.put]
        refine wpAnyZ_take (fuel := 12) (i := 4) rfl (by kernel_rfl) (by kernel_rfl) (by kernel_rfl) (by kernel_rfl) (fun _ _ _ h => h) (Or.inl ⟨by rfl, fun V hV => by obtain ⟨g1, g2⟩ := hV; go_simp; rfl⟩) s0 ?_
        try simp only [Act.put]
        refine wpAnyZ_take (fuel := 11) (i := 5) rfl (by kernel_rfl) (by kernel_rfl) (by kernel_rfl) (by kernel_rfl) (fun _ _ _ h => h) (Or.inl ⟨by rfl, fun V hV => by obtain ⟨g1, g2⟩ := hV; go_simp; rfl⟩) s0 ?_
        try simp only [Act.put]
        refine wpAnyZ_take (fuel := 10) (i := 7) rfl (by kernel_rfl) (by kernel_rfl) (by kernel_rfl) (by kernel_rfl) (fun _ _ _ h => h) (Or.inl ⟨by rfl, fun V hV => by obtain ⟨g1, g2⟩ := hV; go_simp; rfl⟩) s0 ?_
        try simp only [Act.put]
        refine wpAnyZ_take (fuel := 9) (i := 8) rfl (by kernel_rfl) (by kernel_rfl) (by kernel_rfl) (by kernel_rfl) (fun _ _ _ h => h) (Or.inl ⟨by rfl, fun V hV => by obtain ⟨g1, g2⟩ := hV; go_simp; rfl⟩) s0 ?_
        try simp only [Act.put]
        refine wpAnyZ_take (fuel := 8) (i := 9) rfl (by kernel_rfl) (by kernel_rfl) (by kernel_rfl) (by kernel_rfl) (fun _ _ _ h => h) (Or.inl ⟨by rfl, fun V hV => by obtain ⟨g1, g2⟩ := hV; go_simp; rfl⟩) s0 ?_
        try simp only [Act.put]
        refine wpAnyZ_take (fuel := 7) (i := 10) rfl (by kernel_rfl) (by kernel_rfl) (by kernel_rfl) (by kernel_rfl) (fun _ _ _ h => h) (Or.inl ⟨by rfl, fun V hV => by obtain ⟨g1, g2⟩ := hV; go_simp; rfl⟩) s0 ?_
        try simp only [Act.put]
        refine wpAnyZ_two (i := 1) (j := 11) (fuel := 6) (by kernel_rfl) rfl rfl (fun K hK => ?_) (fun K hK => ?_)
        · go_simp
          have b1 := (((Below.refl w5.heap.size w5).alloc (Nat.le_refl _) (.cells #[] 9)).drew)
          refine hK _ _ (fun _ => hS _ b1) ?_
          clear hK K
          try simp only [Act.put, List.setIfInBounds_toArray]
          refine wpAnyZ_two (i := 6) (j := 11) (fuel := 5) (by kernel_rfl) rfl rfl (fun K hK => ?_) (fun K hK => ?_)
          · skip
            refine app_t rfl (.tmp 24) (.tmp 28) rfl w5.heap.size _ _ _ rfl (own_drew (World.ownsRow_made w5 #[] 0 (Nat.le_refl _) (Nat.zero_le _) rfl)) Aa L.length ca L rfl (H5.out.at_.next (b1)) rfl H5.out.no (by omega) ?qh ?_
            case qh => exact (b1).size
            intro v6 wq r6 g6 n6
            replace g6 : World.grownBy _ wq (some w5.heap.size) := g6
            rw [Nat.zero_add, List.nil_append] at r6
            have b6 := b1.grown g6 (Nat.le_of_lt (by simp)) (fun q e => by cases e; exact Nat.le_refl _)
            refine hK _ _ (fun _ => hS _ b6) ?_
            clear hK K
            try simp only [Act.put, List.setIfInBounds_toArray]
            refine wpAnyZ_one (i := 11) (fuel := 4) (by kernel_rfl) rfl (fun K hK => ?_)
            go_simp
            refine hK _ _ (fun _ => hS _ (b6.alloc b6.size (.cells #[.string x] 9))) ?_
            clear hK K
            try simp only [Act.put, List.setIfInBounds_toArray]
            refine wpAnyZ_one (i := 12) (fuel := 3) (by kernel_rfl) rfl (fun K hK => ?_)
            refine app_s rfl (.tmp 29) (.tmp 34) rfl w5.heap.size _ _ _ rfl (r6.alloc _) ⟨wq.heap.size, 0, none⟩ 1 1 [.string x] rfl rfl (cell_one_new wq (.string x) 9) (by simp [Value.oneCell']) (by omega) ?qh ?_
            case qh => first | exact (b6.size) | (have := b6.size; simp; omega)
            intro v9 w9 r9 g9 _
            have b9 := Lib.hid ((b6.alloc b6.size (.cells #[.string x] 9)).grown g9 (by simp; exact Nat.le_succ_of_le b6.size) (fun q e => (r6.lt q e).1))
            have R9 := Lib.hid r9
            refine hK _ _ (fun _ => hS _ b9.out) ?_
            clear hK K g9 r6 g6 n6 b6
            obtain ⟨A9, c9, rfl⟩ := own_form r9
            clear r9
            try simp only [Act.put, List.setIfInBounds_toArray]
            obtain ⟨z1, z2, z3, z4⟩ := HLD.out A9 c9 w9 b9.out (by rw [HLN.out, sv_app]; exact R9.out)
            rw [HLN.out] at z3 z4
            have Z3 := Lib.hid z3
            have Z4 := Lib.hid z4
            clear z3 z4
            refine wpAnyZ_one (i := 13) (fuel := 2) (by kernel_rfl) rfl (fun K hK => ?_)
            go_simp
            refine hK _ _ (fun _ => hS _ b9.out) ?_
            clear hK K
            try simp only [Act.put, List.setIfInBounds_toArray]
            refine wpAnyZ_one (i := 14) (fuel := 1) (by kernel_rfl) rfl (fun K hK => ?_)
            go_simp
            refine hK _ _ (fun _ => hS _ b9.out) ?_
            clear hK K
            try simp only [Act.put, List.setIfInBounds_toArray]
            refine wpAnyZ_one (i := 15) (fuel := 0) (by kernel_rfl) rfl (fun K hK => ?_)
            go_simp
            refine hK _ _ (fun h => by cases h) ?_
            clear hK K
            try simp only [Act.put, List.setIfInBounds_toArray]
            refine wpAnyZ_done (by kernel_rfl) ?_ _
            go_wp2_with fail
            go_roundg g1
            case measure => omega
            case rel => exact ⟨d + 1, d + 1, A9, c9, L ++ [x], by omega, by go_num, by go_num, HDD, HE, by rw [HKA.out]; exact Z3, Lib.hid (N5.out.trans Z4.out)⟩
          · go_simp
            have b2 := (((Below.refl w5.heap.size w5).alloc (Nat.le_refl _) (.cells #[] 9)).alloc (by simp) (.cells #[.string x] 9)).drew
            refine hK _ _ (fun _ => hS _ b2) ?_
            clear hK K
            try simp only [Act.put, List.setIfInBounds_toArray]
            refine wpAnyZ_one (i := 6) (fuel := 4) (by kernel_rfl) rfl (fun K hK => ?_)
            refine app_t rfl (.tmp 24) (.tmp 28) rfl w5.heap.size _ _ _ rfl (own_drew ((World.ownsRow_made w5 #[] 0 (Nat.le_refl _) (Nat.zero_le _) rfl).alloc _)) Aa L.length ca L rfl (H5.out.at_.next (b2)) rfl H5.out.no (by omega) ?qh ?_
            case qh => exact (b2).size
            intro v6 wq r6 g6 n6
            replace g6 : World.grownBy _ wq (some w5.heap.size) := g6
            rw [Nat.zero_add, List.nil_append] at r6
            have b6 := b2.grown g6 (by simp; omega) (fun q e => by cases e; exact Nat.le_refl _)
            have k6 : Bk wq (w5.heap.size + 1) 9 #[.string x] := (g6.block _ (by simp) (by simp [])).trans (by have q := Bk.new (w5.alloc (.cells #[] 9)) 9 #[.string x]; rw [size_alloc] at q; exact q)
            refine hK _ _ (fun _ => hS _ b6) ?_
            clear hK K
            try simp only [Act.put, List.setIfInBounds_toArray]
            refine wpAnyZ_one (i := 12) (fuel := 3) (by kernel_rfl) rfl (fun K hK => ?_)
            refine app_s rfl (.tmp 29) (.tmp 34) rfl w5.heap.size _ _ _ rfl (r6) ⟨w5.heap.size + 1, 0, none⟩ 1 1 [.string x] rfl rfl (one_cell k6) (by simp [Value.oneCell']) (by omega) ?qh ?_
            case qh => first | exact (b6.size) | (have := b6.size; simp; omega)
            intro v9 w9 r9 g9 _
            have b9 := Lib.hid (b6.grown g9 b6.size (fun q e => (r6.lt q e).1))
            have R9 := Lib.hid r9
            refine hK _ _ (fun _ => hS _ b9.out) ?_
            clear hK K g9 r6 g6 n6 b6
            obtain ⟨A9, c9, rfl⟩ := own_form r9
            clear r9
            try simp only [Act.put]
            obtain ⟨z1, z2, z3, z4⟩ := HLD.out A9 c9 w9 b9.out (by rw [HLN.out, sv_app]; exact R9.out)
            rw [HLN.out] at z3 z4
            have Z3 := Lib.hid z3
            have Z4 := Lib.hid z4
            clear z3 z4
            refine wpAnyZ_one (i := 13) (fuel := 2) (by kernel_rfl) rfl (fun K hK => ?_)
            go_simp
            refine hK _ _ (fun _ => hS _ b9.out) ?_
            clear hK K
            try simp only [Act.put, List.setIfInBounds_toArray]
            refine wpAnyZ_one (i := 14) (fuel := 1) (by kernel_rfl) rfl (fun K hK => ?_)
            go_simp
            refine hK _ _ (fun _ => hS _ b9.out) ?_
            clear hK K
            try simp only [Act.put, List.setIfInBounds_toArray]
            refine wpAnyZ_one (i := 15) (fuel := 0) (by kernel_rfl) rfl (fun K hK => ?_)
            go_simp
            refine hK _ _ (fun h => by cases h) ?_
            clear hK K
            try simp only [Act.put, List.setIfInBounds_toArray]
            refine wpAnyZ_done (by kernel_rfl) ?_ _
            go_wp2_with fail
            go_roundg g1
            case measure => omega
            case rel => exact ⟨d + 1, d + 1, A9, c9, L ++ [x], by omega, by go_num, by go_num, HDD, HE, by rw [HKA.out]; exact Z3, Lib.hid (N5.out.trans Z4.out)⟩
        · go_simp
          have b1 := (((Below.refl w5.heap.size w5).alloc (Nat.le_refl _) (.cells #[.string x] 9)).drew)
          refine hK _ _ (fun _ => hS _ b1) ?_
          clear hK K
          try simp only [Act.put, List.setIfInBounds_toArray]
          refine wpAnyZ_one (i := 1) (fuel := 5) (by kernel_rfl) rfl (fun K hK => ?_)
          go_simp
          have b2 := (((Below.refl w5.heap.size w5).alloc (Nat.le_refl _) (.cells #[.string x] 9)).alloc (by simp) (.cells #[] 9)).drew
          refine hK _ _ (fun _ => hS _ b2) ?_
          clear hK K
          try simp only [Act.put, List.setIfInBounds_toArray]
          refine wpAnyZ_one (i := 6) (fuel := 4) (by kernel_rfl) rfl (fun K hK => ?_)
          refine app_t rfl (.tmp 24) (.tmp 28) rfl w5.heap.size _ _ _ rfl (own_drew (by have q := World.ownsRow_made (base := w5.heap.size) (e := 9) (size := 1) (w5.alloc (.cells #[.string x] 9)) #[] 0 (by simp) (Nat.zero_le _) rfl; rw [size_alloc] at q; exact q)) Aa L.length ca L rfl (H5.out.at_.next (b2)) rfl H5.out.no (by omega) ?qh ?_
          case qh => exact (b2).size
          intro v6 wq r6 g6 n6
          replace g6 : World.grownBy _ wq (some (w5.heap.size + 1)) := g6
          rw [Nat.zero_add, List.nil_append] at r6
          have b6 := b2.grown g6 (by simp; omega) (fun q e => by cases e; omega)
          have k6 : Bk wq w5.heap.size 9 #[.string x] := (g6.block _ (by simp; omega) (by simp [])).trans ((Bk.new w5 9 #[.string x]).alloc (.cells #[] 9))
          refine hK _ _ (fun _ => hS _ b6) ?_
          clear hK K
          try simp only [Act.put, List.setIfInBounds_toArray]
          refine wpAnyZ_one (i := 12) (fuel := 3) (by kernel_rfl) rfl (fun K hK => ?_)
          refine app_s rfl (.tmp 29) (.tmp 34) rfl w5.heap.size _ _ _ rfl (r6) ⟨w5.heap.size, 0, none⟩ 1 1 [.string x] rfl rfl (one_cell k6) (by simp [Value.oneCell']) (by omega) ?qh ?_
          case qh => first | exact (b6.size) | (have := b6.size; simp; omega)
          intro v9 w9 r9 g9 _
          have b9 := Lib.hid (b6.grown g9 b6.size (fun q e => (r6.lt q e).1))
          have R9 := Lib.hid r9
          refine hK _ _ (fun _ => hS _ b9.out) ?_
          clear hK K g9 r6 g6 n6 b6
          obtain ⟨A9, c9, rfl⟩ := own_form r9
          clear r9
          try simp only [Act.put]
          obtain ⟨z1, z2, z3, z4⟩ := HLD.out A9 c9 w9 b9.out (by rw [HLN.out, sv_app]; exact R9.out)
          rw [HLN.out] at z3 z4
          have Z3 := Lib.hid z3
          have Z4 := Lib.hid z4
          clear z3 z4
          refine wpAnyZ_one (i := 13) (fuel := 2) (by kernel_rfl) rfl (fun K hK => ?_)
          go_simp
          refine hK _ _ (fun _ => hS _ b9.out) ?_
          clear hK K
          try simp only [Act.put, List.setIfInBounds_toArray]
          refine wpAnyZ_one (i := 14) (fuel := 1) (by kernel_rfl) rfl (fun K hK => ?_)
          go_simp
          refine hK _ _ (fun _ => hS _ b9.out) ?_
          clear hK K
          try simp only [Act.put, List.setIfInBounds_toArray]
          refine wpAnyZ_one (i := 15) (fuel := 0) (by kernel_rfl) rfl (fun K hK => ?_)
          go_simp
          refine hK _ _ (fun h => by cases h) ?_
          clear hK K
          try simp only [Act.put, List.setIfInBounds_toArray]
          refine wpAnyZ_done (by kernel_rfl) ?_ _
          go_wp2_with fail
          go_roundg g1
          case measure => omega
          case rel => exact ⟨d + 1, d + 1, A9, c9, L ++ [x], by omega, by go_num, by go_num, HDD, HE, by rw [HKA.out]; exact Z3, Lib.hid (N5.out.trans Z4.out)⟩
      · have t7 : decide ((L.length : Int) < m) = false := decide_eq_false (by omega)
        have hka : (k + ((a + 1 - d : Nat) : Int)) = k + ((a - d : Nat) : Int) + 1 := by omega
        have HKA := Lib.hid hka
        have HD2 : Hid (d = min (a + 1) q) := Lib.hid (by omega)
        have hkb : k + ((a - d : Nat) : Int) ≤ 1000001000 := by omega
        have hkc : 0 ≤ k + ((a - d : Nat) : Int) := by omega
        generalize hkk : k + ((a - d : Nat) : Int) = kk at *
        clear hd hLl hka hkk
        go_upto_region 5 with fail
        refine region_still (by kernel_rfl) (by kernel_rfl) (fun w5 hw5 => ?_)
        have L5 : Hid (Below wr.heap.size wr w5) := below_hid (Below.refl _ _) hw5
        have H5 := Lib.hid (H.out.next L5.out)
        replace c0 := H5.out.blk.cell 0 _ rfl
        replace c1 := H5.out.blk.cell 1 _ rfl
        clear hw5
        repeat still_step
        refine wpStill_nil ?_
        clear c0 c1 t7
        have c2 := H5.out.blk.cell 2 _ rfl
        have f2 := H5.out.blk.frozen 2
        have Q5 := Lib.hid (H5.out.lost (kk + 1))
        have N5 := Lib.hid (N.out.trans (Rn.same L5.out))
        go_wp2_with fail
        go_roundg g1
        case measure => omega
        case rel => exact ⟨a + 1, d, Aa, ca, L, by omega, by go_num, rfl, HD2, HL, by rw [HKA.out]; exact Lib.hid Q5.out.1, Lib.hid (N5.out.trans Q5.out.2)⟩
end Go.Proofs.Ytlhfijjjfolldaa
