/- The document's net: Twice, Send. -/
import Derived.Test.YtlhfijjjfolldaaC2
import Derived.Test.YtlhfijjjfolldaaA6
namespace Go.Proofs.Ytlhfijjjfolldaa
open Go.RowKit Go.Maps

section
variable {P : Program} {ops : Array Oper} {Q : Exit → Act → World → Prop} {md : Region.Mode} {S : World → Prop} {z : Nat → Bool}
theorem wpAnyZ_two {i j : Nat} {oi oj : Oper} {fuel : Nat} {listed : Array Bool} {a : Act} {w : World} (hr : Region.ready md ops listed = [i, j]) (hi : ops[i]? = some oi) (hj : ops[j]? = some oj)
    (h1 : ∀ K' : Act → World → Prop, (∀ a' w', (z i = false → S w') → wpAnyZ P md ops Q S z fuel (listed.setIfInBounds i true) a' w' → K' a' w') → if Region.wanted oi (yielded ops a.tmps) = true then Oper.wp P oi a w K' Q else K' (a.put oi.dst undef) w)
    (h2 : ∀ K' : Act → World → Prop, (∀ a' w', (z j = false → S w') → wpAnyZ P md ops Q S z fuel (listed.setIfInBounds j true) a' w' → K' a' w') → if Region.wanted oj (yielded ops a.tmps) = true then Oper.wp P oj a w K' Q else K' (a.put oj.dst undef) w) : wpAnyZ P md ops Q S z (fuel + 1) listed a w := by
  refine ⟨fun h0 => (by rw [hr] at h0; cases h0), fun q hq => ?_⟩
  rw [hr] at hq
  rcases List.mem_cons.1 hq with rfl | hq
  · exact wpOp_step hi fun K' hK => h1 K' fun a' w' q1 q2 => hK a' w' ⟨q1, q2⟩
  · obtain rfl : q = j := by simpa using hq
    exact wpOp_step hj fun K' hK => h2 K' fun a' w' q1 q2 => hK a' w' ⟨q1, q2⟩
end
theorem own_drew {w : World} {base size n : Nat} {e : TypeId} {v : Value} {xs : List Value} (h : w.ownsRow base e size v n xs) : w.drew.ownsRow base e size v n xs := h
theorem one_cell {w : World} {g : Nat} {x : Value} (k : Bk w g 9 #[x]) : ∀ j u, [x][j]? = some u → w.cell? ((⟨g, 0, none⟩ : Addr).add j) = some u := by
  intro j u hj
  rw [add_at]
  match j, hj with
  | 0, hj => cases hj; exact k.cell 0 _ rfl
/-- An append of texts, or of none. -/
theorem app_t {ops : Array Oper} {o : Oper} {a : Act} {w : World} {K : Act → World → Prop} {Q : Exit → Act → World → Prop} {E : Prop} (hgd : o.guard = none) (s y : Operand)
    (ho : o.op = .call { callee := .builtin .append, args := #[s, y], argTypes := #[30, 30] }) (B n : Nat) (v : Value) (xs : List Value) (hs : a.eval s = v) (hown : w.ownsRow B 9 1 v n xs)
    (A : Option Addr) (cnt c : Nat) (zs : List Str) (hx : a.eval y = .slice A cnt c) (hz : StrsAt w A zs) (hlen : zs.length = cnt) (hno : A = none → c = 0) (hm : n + cnt ≤ 100000) (hB : B ≤ w.heap.size)
    (h : ∀ v' w', w'.ownsRow B 9 1 v' (n + cnt) (xs ++ sv zs) → w.grownBy w' v.ownBlock → (∀ g, v'.ownBlock = some g → v.ownBlock = some g ∨ w.heap.size ≤ g) → K (a.put o.dst v') w') : if Region.wanted o (yielded ops a.tmps) = true then Oper.wp Try.prog o a w K Q else E := by
  cases A with
  | some src => exact app_s hgd s y ho B n v xs hs hown src cnt c (sv zs) hx (by rw [sv_len, hlen]) hz.cells (sv_ones _) hm hB h
  | none =>
    have e := hz.none_
    subst e
    obtain rfl : cnt = 0 := by simpa using hlen.symm
    obtain rfl := hno rfl
    refine app_0 hgd s y ho B n v xs hs hown hx (h v w ?_ ⟨rfl, rfl, rfl, Nat.le_refl _, fun _ _ _ => rfl⟩ fun g e => .inl e)
    have : xs ++ sv [] = xs := by simp [sv]
    rw [this]
    exact hown
set_option maxRecDepth 100000 in
set_option maxHeartbeats 8000000 in
theorem rtwice_any {w : World} {r cap : Nat} {m k : Int} {A : Option Addr} {l : List Str} (h : Rt w r m A cap l k) (i : Int) :
    Calls Try.prog 24 #[.pointer (some ⟨r, 0, none⟩), .int .i64 i] w fun e w' => e = .returned (.bool (twB l m)) ∧ ∃ A' cap', Rt w' r m A' cap' (twL l m i) k ∧ Rn w w' r A A' := by
  have KP := Lib.hid (rplace_any h i)
  have H := Lib.hid h
  have hlen := h.len
  rcases hl : l with _ | ⟨y, t⟩
  · subst hl
    clear h
    go_enter Try.func24, Try.ntmps24
    go_wp2_with fail
    refine KP.out.mono ?_
    rintro _ w1 ⟨rfl, rfl⟩
    rw [show plR [] i = -1 from rfl]
    have hIn := inNonempty w.heap.size w
    go_upto_region 2 with fail
    refine region_in w.heap.size (by kernel_rfl) (by kernel_rfl) ?_
    repeat (go_big_quiet_step (first | fail))
    refine wpQuiet_nil ?_
    intro w6 hb6
    have L6 := Lib.hid hb6
    clear hb6
    go_wp2_with fail
    go_ret
    exact ⟨rfl, A, cap, H.out.next L6.out, Rn.same L6.out⟩
  · rw [← hl]
    have hl0 : 0 < l.length := by rw [hl]; simp
    have hne : l.isEmpty = false := by rw [hl]; rfl
    have hpl : plR l i = (plc l i : Int) := by unfold plR; rw [hne]; rfl
    have HB : Hid (twB l m = decide ((l.length : Int) < m)) := by
      show _ = _
      unfold twB
      rw [hne]
      rfl
    have HL : Hid (twL l m i = if twB l m then l ++ [tkS l i] else l) := rfl
    rw [hpl] at KP
    obtain ⟨hpx, hp2⟩ := plc_cast hl0 i
    obtain ⟨x, hx⟩ : ∃ x, l[plc l i]? = some x := ⟨_, List.getElem?_eq_getElem hp2⟩
    have HX := Lib.hid (show tkS l i = x from by unfold tkS; rw [hx]; rfl)
    have HXX := Lib.hid hx
    generalize plc l i = j at *
    clear hl hne hpl h hpx hx
    have hIn := inNonempty w.heap.size w
    have c0 := In.cell (B := w.heap.size) H.out.blk.lt (H.out.blk.cell 0 _ rfl)
    have c1 := In.cell (B := w.heap.size) H.out.blk.lt (H.out.blk.cell 1 _ rfl)
    have j0 : (0 : Int) ≤ (j : Int) := by omega
    have j1 : (j : Int) < (l.length : Int) := by omega
    have t5 : decide ((j : Int) < 0) = false := decide_eq_false (by omega)
    by_cases hm : (l.length : Int) < m
    · have HB2 := Lib.hid (show twB l m = true from HB.out.trans (decide_eq_true hm))
      have t0 : decide (m ≤ (l.length : Int)) = false := decide_eq_false (by omega)
      go_enter Try.func24, Try.ntmps24
      go_wp2_with fail
      refine KP.out.mono ?_
      rintro _ w1 ⟨rfl, rfl⟩
      go_upto_region 2 with fail
      refine region_in w.heap.size (by kernel_rfl) (by kernel_rfl) ?_
      repeat (go_big_quiet_step (first | fail))
      refine wpQuiet_nil ?_
      intro w6 hb6
      have L6 := Lib.hid hb6
      have H6 := Lib.hid (H.out.next hb6)
      clear hb6 c0 c1 hIn KP H t0
      go_wp2_with fail
      obtain ⟨ad, rfl, had, cx⟩ := H6.out.at_.at_ HXX.out
      have H := H6
      have hbl := H.out.blk.lt
      have c1 := H.out.blk.cell 1 _ rfl
      let SS : World → Prop := fun W => W.cell? ⟨r, 1, none⟩ = some (.slice (some ad) l.length cap) ∧ W.cell? (ad.add j) = some (.string x)
      have hS : ∀ W, Below w6.heap.size w6 W → SS W := fun W hW => ⟨(hW.cell (p := ⟨r, 1, none⟩) hbl).trans c1, (hW.cell (p := ad.add j) (by rw [block_add]; exact had)).trans cx⟩
      have s0 : SS w6.drew := hS _ (Below.refl _ _).drew
      have HLN := Lib.hid (show (l ++ [x]).length = l.length + 1 from by simp)
      have HLD := Lib.hid (fun A' c' w1 (hb : Below w6.heap.size w6 w1) hr => H.out.laid (A' := A') (cap' := c') (l' := l ++ [x]) hb hr (by rw [HLN.out]; omega))
      refine wp_region_z SS (fun j => j == 18) (by kernel_rfl) ?_
      refine wpAnyZ_take (fuel := 18) (i := 0) rfl (by kernel_rfl) (by kernel_rfl) (by kernel_rfl) (by kernel_rfl) (fun _ _ _ h => h) (Or.inl ⟨by rfl, fun V hV => by obtain ⟨g1, g2⟩ := hV; go_simp; rfl⟩) s0 ?_
      try simp only [Act.put, List.setIfInBounds_toArray]
      refine wpAnyZ_take (fuel := 17) (i := 2) rfl (by kernel_rfl) (by kernel_rfl) (by kernel_rfl) (by kernel_rfl) (fun _ _ _ h => h) (Or.inl ⟨by rfl, fun V hV => by obtain ⟨g1, g2⟩ := hV; go_simp; rfl⟩) s0 ?_
      try simp only [Act.put]
      refine wpAnyZ_take (fuel := 16) (i := 3) rfl (by kernel_rfl) (by kernel_rfl) (by kernel_rfl) (by kernel_rfl) (fun _ _ _ h => h) (Or.inl ⟨by rfl, fun V hV => by obtain ⟨g1, g2⟩ := hV; go_simp; rfl⟩) s0 ?_
      try simp only [Act.put]
      refine wpAnyZ_take (fuel := 15) (i := 4) rfl (by kernel_rfl) (by kernel_rfl) (by kernel_rfl) (by kernel_rfl) (fun _ _ _ h => h) (Or.inl ⟨by rfl, fun V hV => by obtain ⟨g1, g2⟩ := hV; go_simp; rfl⟩) s0 ?_
      try simp only [Act.put]
      refine wpAnyZ_take (fuel := 14) (i := 5) rfl (by kernel_rfl) (by kernel_rfl) (by kernel_rfl) (by kernel_rfl) (fun _ _ _ h => h) (Or.inl ⟨by rfl, fun V hV => by obtain ⟨g1, g2⟩ := hV; go_simp; rfl⟩) s0 ?_
      try simp only [Act.put]
      refine wpAnyZ_take (fuel := 13) (i := 7) rfl (by kernel_rfl) (by kernel_rfl) (by kernel_rfl) (by kernel_rfl) (fun _ _ _ h => h) (Or.inl ⟨by rfl, fun V hV => by obtain ⟨g1, g2⟩ := hV; go_simp; rfl⟩) s0 ?_
      try simp only [Act.put]
      refine wpAnyZ_take (fuel := 12) (i := 8) rfl (by kernel_rfl) (by kernel_rfl) (by kernel_rfl) (by kernel_rfl) (fun _ _ _ h => h) (Or.inl ⟨by rfl, fun V hV => by obtain ⟨g1, g2⟩ := hV; go_simp; rfl⟩) s0 ?_
      try simp only [Act.put]
      refine wpAnyZ_take (fuel := 11) (i := 9) rfl (by kernel_rfl) (by kernel_rfl) (by kernel_rfl) (by kernel_rfl) (fun _ _ _ h => h) (Or.inl ⟨by rfl, fun V hV => by obtain ⟨g1, g2⟩ := hV; go_simp; rfl⟩) s0 ?_
      try simp only [Act.put]
      refine wpAnyZ_take (fuel := 10) (i := 10) rfl (by kernel_rfl) (by kernel_rfl) (by kernel_rfl) (by kernel_rfl) (fun _ _ _ h => h) (Or.inl ⟨by rfl, fun V hV => by obtain ⟨g1, g2⟩ := hV; go_simp; rfl⟩) s0 ?_
      try simp only [Act.put]
      refine wpAnyZ_take (fuel := 9) (i := 11) rfl (by kernel_rfl) (by kernel_rfl) (by kernel_rfl) (by kernel_rfl) (fun _ _ _ h => h) (Or.inl ⟨by rfl, fun V hV => by obtain ⟨g1, g2⟩ := hV; go_simp; rfl⟩) s0 ?_
      try simp only [Act.put]
      refine wpAnyZ_take (fuel := 8) (i := 12) rfl (by kernel_rfl) (by kernel_rfl) (by kernel_rfl) (by kernel_rfl) (fun _ _ _ h => h) (Or.inl ⟨by rfl, fun V hV => by obtain ⟨g1, g2⟩ := hV; go_simp; rfl⟩) s0 ?_
      try simp only [Act.put]
      refine wpAnyZ_take (fuel := 7) (i := 13) rfl (by kernel_rfl) (by kernel_rfl) (by kernel_rfl) (by kernel_rfl) (fun _ _ _ h => h) (Or.inl ⟨by rfl, fun V hV => by obtain ⟨g1, g2⟩ := hV; go_simp; rfl⟩) s0 ?_
      try simp only [Act.put]
      refine wpAnyZ_two (i := 1) (j := 14) (fuel := 6) (by kernel_rfl) rfl rfl (fun K hK => ?_) (fun K hK => ?_)
      · go_simp
        have b1 := (((Below.refl w6.heap.size w6).alloc (Nat.le_refl _) (.cells #[] 9)).drew)
        refine hK _ _ (fun _ => hS _ b1) ?_
        clear hK K
        try simp only [Act.put, List.setIfInBounds_toArray]
        refine wpAnyZ_two (i := 6) (j := 14) (fuel := 5) (by kernel_rfl) rfl rfl (fun K hK => ?_) (fun K hK => ?_)
        · skip
          refine app_t rfl (.tmp 24) (.tmp 28) rfl w6.heap.size _ _ _ rfl (own_drew (World.ownsRow_made w6 #[] 0 (Nat.le_refl _) (Nat.zero_le _) rfl)) (some ad) l.length cap l rfl (H.out.at_.next (b1)) rfl H.out.no (by omega) ?qh ?_
          case qh => exact (b1).size
          intro v6 wq r6 g6 n6
          replace g6 : World.grownBy _ wq (some w6.heap.size) := g6
          rw [Nat.zero_add, List.nil_append] at r6
          have b6 := b1.grown g6 (Nat.le_of_lt (by simp)) (fun q e => by cases e; exact Nat.le_refl _)
          refine hK _ _ (fun _ => hS _ b6) ?_
          clear hK K
          try simp only [Act.put, List.setIfInBounds_toArray]
          refine wpAnyZ_one (i := 14) (fuel := 4) (by kernel_rfl) rfl (fun K hK => ?_)
          go_simp
          refine hK _ _ (fun _ => hS _ (b6.alloc b6.size (.cells #[.string x] 9))) ?_
          clear hK K
          try simp only [Act.put, List.setIfInBounds_toArray]
          refine wpAnyZ_one (i := 15) (fuel := 3) (by kernel_rfl) rfl (fun K hK => ?_)
          refine app_s rfl (.tmp 29) (.tmp 37) rfl w6.heap.size _ _ _ rfl (r6.alloc _) ⟨wq.heap.size, 0, none⟩ 1 1 [.string x] rfl rfl (cell_one_new wq (.string x) 9) (by simp [Value.oneCell']) (by omega) ?qh ?_
          case qh => first | exact (b6.size) | (have := b6.size; simp; omega)
          intro v9 w9 r9 g9 _
          have b9 := Lib.hid ((b6.alloc b6.size (.cells #[.string x] 9)).grown g9 (by simp; exact Nat.le_succ_of_le b6.size) (fun q e => (r6.lt q e).1))
          have R9 := Lib.hid r9
          refine hK _ _ (fun _ => hS _ b9.out) ?_
          clear hK K g9 r6 g6 n6 b6
          obtain ⟨A9, c9, rfl⟩ := own_form r9
          clear r9
          try simp only [Act.put, List.setIfInBounds_toArray]
          obtain ⟨z1, z2, z3, z4⟩ := HLD.out A9 c9 w9 b9.out (by rw [HLN.out, sv_app]; exact R9.out)
          rw [HLN.out] at z3 z4
          have Z3 := Lib.hid z3
          have Z4 := Lib.hid z4
          clear z3 z4
          refine wpAnyZ_one (i := 16) (fuel := 2) (by kernel_rfl) rfl (fun K hK => ?_)
          go_simp
          refine hK _ _ (fun _ => hS _ b9.out) ?_
          clear hK K
          try simp only [Act.put, List.setIfInBounds_toArray]
          refine wpAnyZ_one (i := 17) (fuel := 1) (by kernel_rfl) rfl (fun K hK => ?_)
          go_simp
          refine hK _ _ (fun _ => hS _ b9.out) ?_
          clear hK K
          try simp only [Act.put, List.setIfInBounds_toArray]
          refine wpAnyZ_one (i := 18) (fuel := 0) (by kernel_rfl) rfl (fun K hK => ?_)
          go_simp
          refine hK _ _ (fun h => by cases h) ?_
          clear hK K
          try simp only [Act.put, List.setIfInBounds_toArray]
          refine wpAnyZ_done (by kernel_rfl) ?_ _
          go_wp2_with fail
          go_ret
          exact ⟨by rw [HB2.out]; rfl, A9, c9, by rw [HL.out, HB2.out, HX.out]; exact Z3.out, (Rn.same L6.out).trans Z4.out⟩
        · go_simp
          have b2 := (((Below.refl w6.heap.size w6).alloc (Nat.le_refl _) (.cells #[] 9)).alloc (by simp) (.cells #[.string x] 9)).drew
          refine hK _ _ (fun _ => hS _ b2) ?_
          clear hK K
          try simp only [Act.put, List.setIfInBounds_toArray]
          refine wpAnyZ_one (i := 6) (fuel := 4) (by kernel_rfl) rfl (fun K hK => ?_)
          refine app_t rfl (.tmp 24) (.tmp 28) rfl w6.heap.size _ _ _ rfl (own_drew ((World.ownsRow_made w6 #[] 0 (Nat.le_refl _) (Nat.zero_le _) rfl).alloc _)) (some ad) l.length cap l rfl (H.out.at_.next (b2)) rfl H.out.no (by omega) ?qh ?_
          case qh => exact (b2).size
          intro v6 wq r6 g6 n6
          replace g6 : World.grownBy _ wq (some w6.heap.size) := g6
          rw [Nat.zero_add, List.nil_append] at r6
          have b6 := b2.grown g6 (by simp; omega) (fun q e => by cases e; exact Nat.le_refl _)
          have k6 : Bk wq (w6.heap.size + 1) 9 #[.string x] := (g6.block _ (by simp) (by simp [])).trans (by have q := Bk.new (w6.alloc (.cells #[] 9)) 9 #[.string x]; rw [size_alloc] at q; exact q)
          refine hK _ _ (fun _ => hS _ b6) ?_
          clear hK K
          try simp only [Act.put, List.setIfInBounds_toArray]
          refine wpAnyZ_one (i := 15) (fuel := 3) (by kernel_rfl) rfl (fun K hK => ?_)
          refine app_s rfl (.tmp 29) (.tmp 37) rfl w6.heap.size _ _ _ rfl (r6) ⟨w6.heap.size + 1, 0, none⟩ 1 1 [.string x] rfl rfl (one_cell k6) (by simp [Value.oneCell']) (by omega) ?qh ?_
          case qh => first | exact (b6.size) | (have := b6.size; simp; omega)
          intro v9 w9 r9 g9 _
          have b9 := Lib.hid (b6.grown g9 b6.size (fun q e => (r6.lt q e).1))
          have R9 := Lib.hid r9
          refine hK _ _ (fun _ => hS _ b9.out) ?_
          clear hK K g9 r6 g6 n6 b6
          obtain ⟨A9, c9, rfl⟩ := own_form r9
          clear r9
          try simp only [Act.put]
          obtain ⟨z1, z2, z3, z4⟩ := HLD.out A9 c9 w9 b9.out (by rw [HLN.out, sv_app]; exact R9.out)
          rw [HLN.out] at z3 z4
          have Z3 := Lib.hid z3
          have Z4 := Lib.hid z4
          clear z3 z4
          refine wpAnyZ_one (i := 16) (fuel := 2) (by kernel_rfl) rfl (fun K hK => ?_)
          go_simp
          refine hK _ _ (fun _ => hS _ b9.out) ?_
          clear hK K
          try simp only [Act.put, List.setIfInBounds_toArray]
          refine wpAnyZ_one (i := 17) (fuel := 1) (by kernel_rfl) rfl (fun K hK => ?_)
          go_simp
          refine hK _ _ (fun _ => hS _ b9.out) ?_
          clear hK K
          try simp only [Act.put, List.setIfInBounds_toArray]
          refine wpAnyZ_one (i := 18) (fuel := 0) (by kernel_rfl) rfl (fun K hK => ?_)
          go_simp
          refine hK _ _ (fun h => by cases h) ?_
          clear hK K
          try simp only [Act.put, List.setIfInBounds_toArray]
          refine wpAnyZ_done (by kernel_rfl) ?_ _
          go_wp2_with fail
          go_ret
          exact ⟨by rw [HB2.out]; rfl, A9, c9, by rw [HL.out, HB2.out, HX.out]; exact Z3.out, (Rn.same L6.out).trans Z4.out⟩
      · go_simp
        have b1 := (((Below.refl w6.heap.size w6).alloc (Nat.le_refl _) (.cells #[.string x] 9)).drew)
        refine hK _ _ (fun _ => hS _ b1) ?_
        clear hK K
        try simp only [Act.put, List.setIfInBounds_toArray]
        refine wpAnyZ_one (i := 1) (fuel := 5) (by kernel_rfl) rfl (fun K hK => ?_)
        go_simp
        have b2 := (((Below.refl w6.heap.size w6).alloc (Nat.le_refl _) (.cells #[.string x] 9)).alloc (by simp) (.cells #[] 9)).drew
        refine hK _ _ (fun _ => hS _ b2) ?_
        clear hK K
        try simp only [Act.put, List.setIfInBounds_toArray]
        refine wpAnyZ_one (i := 6) (fuel := 4) (by kernel_rfl) rfl (fun K hK => ?_)
        refine app_t rfl (.tmp 24) (.tmp 28) rfl w6.heap.size _ _ _ rfl (own_drew (by have q := World.ownsRow_made (base := w6.heap.size) (e := 9) (size := 1) (w6.alloc (.cells #[.string x] 9)) #[] 0 (by simp) (Nat.zero_le _) rfl; rw [size_alloc] at q; exact q)) (some ad) l.length cap l rfl (H.out.at_.next (b2)) rfl H.out.no (by omega) ?qh ?_
        case qh => exact (b2).size
        intro v6 wq r6 g6 n6
        replace g6 : World.grownBy _ wq (some (w6.heap.size + 1)) := g6
        rw [Nat.zero_add, List.nil_append] at r6
        have b6 := b2.grown g6 (by simp; omega) (fun q e => by cases e; omega)
        have k6 : Bk wq w6.heap.size 9 #[.string x] := (g6.block _ (by simp; omega) (by simp [])).trans ((Bk.new w6 9 #[.string x]).alloc (.cells #[] 9))
        refine hK _ _ (fun _ => hS _ b6) ?_
        clear hK K
        try simp only [Act.put, List.setIfInBounds_toArray]
        refine wpAnyZ_one (i := 15) (fuel := 3) (by kernel_rfl) rfl (fun K hK => ?_)
        refine app_s rfl (.tmp 29) (.tmp 37) rfl w6.heap.size _ _ _ rfl (r6) ⟨w6.heap.size, 0, none⟩ 1 1 [.string x] rfl rfl (one_cell k6) (by simp [Value.oneCell']) (by omega) ?qh ?_
        case qh => first | exact (b6.size) | (have := b6.size; simp; omega)
        intro v9 w9 r9 g9 _
        have b9 := Lib.hid (b6.grown g9 b6.size (fun q e => (r6.lt q e).1))
        have R9 := Lib.hid r9
        refine hK _ _ (fun _ => hS _ b9.out) ?_
        clear hK K g9 r6 g6 n6 b6
        obtain ⟨A9, c9, rfl⟩ := own_form r9
        clear r9
        try simp only [Act.put]
        obtain ⟨z1, z2, z3, z4⟩ := HLD.out A9 c9 w9 b9.out (by rw [HLN.out, sv_app]; exact R9.out)
        rw [HLN.out] at z3 z4
        have Z3 := Lib.hid z3
        have Z4 := Lib.hid z4
        clear z3 z4
        refine wpAnyZ_one (i := 16) (fuel := 2) (by kernel_rfl) rfl (fun K hK => ?_)
        go_simp
        refine hK _ _ (fun _ => hS _ b9.out) ?_
        clear hK K
        try simp only [Act.put, List.setIfInBounds_toArray]
        refine wpAnyZ_one (i := 17) (fuel := 1) (by kernel_rfl) rfl (fun K hK => ?_)
        go_simp
        refine hK _ _ (fun _ => hS _ b9.out) ?_
        clear hK K
        try simp only [Act.put, List.setIfInBounds_toArray]
        refine wpAnyZ_one (i := 18) (fuel := 0) (by kernel_rfl) rfl (fun K hK => ?_)
        go_simp
        refine hK _ _ (fun h => by cases h) ?_
        clear hK K
        try simp only [Act.put, List.setIfInBounds_toArray]
        refine wpAnyZ_done (by kernel_rfl) ?_ _
        go_wp2_with fail
        go_ret
        exact ⟨by rw [HB2.out]; rfl, A9, c9, by rw [HL.out, HB2.out, HX.out]; exact Z3.out, (Rn.same L6.out).trans Z4.out⟩
    · have HB2 := Lib.hid (show twB l m = false from HB.out.trans (decide_eq_false hm))
      have t0 : decide (m ≤ (l.length : Int)) = true := decide_eq_true (by omega)
      go_enter Try.func24, Try.ntmps24
      go_wp2_with fail
      refine KP.out.mono ?_
      rintro _ w1 ⟨rfl, rfl⟩
      go_upto_region 2 with fail
      refine region_in w.heap.size (by kernel_rfl) (by kernel_rfl) ?_
      repeat (go_big_quiet_step (first | fail))
      refine wpQuiet_nil ?_
      intro w6 hb6
      have L6 := Lib.hid hb6
      clear hb6
      go_wp2_with fail
      go_ret
      exact ⟨by rw [HB2.out]; rfl, A, cap, by rw [HL.out, HB2.out]; exact H.out.next L6.out, Rn.same L6.out⟩
end Go.Proofs.Ytlhfijjjfolldaa
