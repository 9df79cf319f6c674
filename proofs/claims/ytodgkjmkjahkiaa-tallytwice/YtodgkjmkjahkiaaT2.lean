/- tally: a tally in memory; mayBe, anySaid. -/
import Derived.Test.YtodgkjmkjahkiaaT1
namespace Go.Proofs.Ytodgkjmkjahkiaa
open Go.RowKit Go.Maps

/-- Nodes that rise, from above b, below 16. -/
def upB : Int → List Int → Bool
  | _, [] => true
  | b, x :: r => decide (b < x) && decide (x < 16) && upB x r
def okN (ns : List Int) : Bool := upB (-1) ns && decide (0 < ns.length)
theorem upB_iff {b : Int} {ns : List Int} : upB b ns = true ↔ (ns.Pairwise fun x y => x < y) ∧ ∀ x ∈ ns, b < x ∧ x < 16 := by
  induction ns generalizing b with
  | nil => simp [upB]
  | cons y r ih =>
    unfold upB
    rw [Bool.and_eq_true, Bool.and_eq_true, decide_eq_true_eq, decide_eq_true_eq, ih, List.pairwise_cons]
    constructor
    · rintro ⟨⟨h1, h2⟩, h3, h4⟩
      refine ⟨⟨fun z hz => (h4 z hz).1, h3⟩, fun x hx => ?_⟩
      rcases List.mem_cons.1 hx with rfl | hx
      · exact ⟨h1, h2⟩
      · have := h4 x hx; omega
    · rintro ⟨⟨h1, h2⟩, h3⟩
      have hy := h3 y List.mem_cons_self
      exact ⟨⟨hy.1, hy.2⟩, h2, fun x hx => ⟨h1 x hx, (h3 x (List.mem_cons_of_mem _ hx)).2⟩⟩
theorem okN_iff {ns : List Int} : okN ns = true ↔ ((ns.Pairwise fun x y => x < y) ∧ ∀ x ∈ ns, -1 < x ∧ x < 16) ∧ 0 < ns.length := by
  unfold okN
  rw [Bool.and_eq_true, decide_eq_true_eq, upB_iff]
theorem okN_nodup {ns : List Int} (h : okN ns = true) : ns.Nodup := by
  rw [List.nodup_iff_pairwise_ne]
  exact (okN_iff.1 h).1.1.imp (fun h => by omega)
theorem okN_len {ns : List Int} (h : okN ns = true) : ns.length ≤ 16 := len_le 16 ns (okN_nodup h) fun x hx => by have := (okN_iff.1 h).1.2 x hx; omega
/-- The document's tally. -/
structure Tv where
  ns : List Int
  vs : List Int
  cs : List Int
def Tv.st (T : Tv) : Int := if hasB T.vs 2 then 2 else if hasB T.vs 0 then 0 else if hasB T.cs (-1) then 1 else 3
/-- What a map of votes says. -/
structure AgV (V : List En) (ns vs : List Int) : Prop where
  len : vs.length = ns.length
  at_ : ∀ i, i < ns.length → (lk V (ns.getD i 0) = none ∧ vs.getD i 0 = 0) ∨ ∃ x, lk V (ns.getD i 0) = some x ∧ ((x.v = .bool true ∧ vs.getD i 0 = 1) ∨ (x.v = .bool false ∧ vs.getD i 0 = 2))
  keys : ∀ x ∈ V, x.n ∈ ns
/-- What a map of codes says. -/
structure AgC (C : List En) (ns cs : List Int) : Prop where
  len : cs.length = ns.length
  at_ : ∀ i, i < ns.length → (lk C (ns.getD i 0) = none ∧ cs.getD i 0 = -1) ∨ ∃ x, lk C (ns.getD i 0) = some x ∧ x.v = .int .i64 (cs.getD i 0) ∧ 0 ≤ cs.getD i 0 ∧ cs.getD i 0 ≤ 255
  keys : ∀ x ∈ C, x.n ∈ ns
theorem nodup_le {A B : List Int} (hA : A.Nodup) (h : ∀ x ∈ A, x ∈ B) : A.length ≤ B.length := by
  induction A generalizing B with
  | nil => exact Nat.zero_le _
  | cons x r ih =>
    obtain ⟨h1, h2⟩ := List.nodup_cons.1 hA
    have hx := h x List.mem_cons_self
    have := ih (B := B.erase x) h2 (fun y hy => (List.mem_erase_of_ne (fun e => h1 (by rw [← e]; exact hy))).2 (h y (List.mem_cons_of_mem _ hy)))
    rw [List.length_erase_of_mem hx] at this
    have := List.length_pos_of_mem hx
    simp
    omega
/-- As many as there are nodes: each has said something. -/
theorem all_said {V : List En} {ns : List Int} (hn : ns.Nodup) (hu : V.Pairwise fun a b => a.n ≠ b.n) (hk : ∀ x ∈ V, x.n ∈ ns) : V.length ≤ ns.length ∧ (V.length < ns.length ↔ ∃ i, i < ns.length ∧ lk V (ns.getD i 0) = none) := by
  have hnd : (V.map (·.n)).Nodup := by rw [List.nodup_iff_pairwise_ne]; exact List.pairwise_map.2 hu
  have hle := nodup_le hnd (B := ns) (fun x hx => by obtain ⟨y, hy, rfl⟩ := List.mem_map.1 hx; exact hk y hy)
  rw [List.length_map] at hle
  refine ⟨hle, fun h => ?_, fun ⟨i, hi, hl⟩ => ?_⟩
  · apply Classical.byContradiction
    intro hno
    have : ns.length ≤ (V.map (·.n)).length := nodup_le hn fun x hx => by
      obtain ⟨i, hi, rfl⟩ := List.getElem_of_mem hx
      cases hl : lk V ns[i] with
      | none => exact absurd ⟨i, hi, by rw [List.getD_eq_getElem?_getD, List.getElem?_eq_getElem hi]; exact hl⟩ hno
      | some y => exact List.mem_map.2 ⟨y, lk_mem hl⟩
    rw [List.length_map] at this
    omega
  · have hm : ns.getD i 0 ∈ ns := by rw [List.getD_eq_getElem?_getD, List.getElem?_eq_getElem hi]; exact List.getElem_mem _
    have := nodup_le hnd (B := ns.erase (ns.getD i 0)) (fun x hx => by
      obtain ⟨y, hy, rfl⟩ := List.mem_map.1 hx
      exact (List.mem_erase_of_ne (lk_none.1 hl y hy)).2 (hk y hy))
    rw [List.length_map, List.length_erase_of_mem hm] at this
    omega
theorem hasB_at {l : List Int} {x : Int} : hasB l x = true ↔ ∃ i, i < l.length ∧ l.getD i 0 = x := by
  rw [hasB_iff]
  constructor
  · intro h
    obtain ⟨i, hi, e⟩ := List.getElem_of_mem h
    exact ⟨i, hi, by rw [List.getD_eq_getElem?_getD, List.getElem?_eq_getElem hi]; exact e⟩
  · rintro ⟨i, hi, rfl⟩
    rw [List.getD_eq_getElem?_getD, List.getElem?_eq_getElem hi]
    exact List.getElem_mem _
theorem AgV.open_ {V : List En} {ns vs : List Int} (h : AgV V ns vs) (hn : ns.Nodup) (hu : V.Pairwise fun a b => a.n ≠ b.n) : hasB vs 0 = decide (V.length < ns.length) := by
  rw [Bool.eq_iff_iff, hasB_at, decide_eq_true_eq, (all_said hn hu h.keys).2, h.len]
  constructor
  · rintro ⟨i, hi, e⟩
    refine ⟨i, hi, ?_⟩
    rcases h.at_ i hi with ⟨h1, _⟩ | ⟨x, _, ⟨_, h2⟩ | ⟨_, h2⟩⟩
    · exact h1
    · omega
    · omega
  · rintro ⟨i, hi, e⟩
    refine ⟨i, hi, ?_⟩
    rcases h.at_ i hi with ⟨_, h1⟩ | ⟨x, h1, _⟩
    · exact h1
    · rw [e] at h1; cases h1
theorem AgC.open_ {C : List En} {ns cs : List Int} (h : AgC C ns cs) (hn : ns.Nodup) (hu : C.Pairwise fun a b => a.n ≠ b.n) : hasB cs (-1) = decide (C.length < ns.length) := by
  rw [Bool.eq_iff_iff, hasB_at, decide_eq_true_eq, (all_said hn hu h.keys).2, h.len]
  constructor
  · rintro ⟨i, hi, e⟩
    refine ⟨i, hi, ?_⟩
    rcases h.at_ i hi with ⟨h1, _⟩ | ⟨x, _, _, h2, _⟩
    · exact h1
    · omega
  · rintro ⟨i, hi, e⟩
    refine ⟨i, hi, ?_⟩
    rcases h.at_ i hi with ⟨_, h1⟩ | ⟨x, h1, _⟩
    · exact h1
    · rw [e] at h1; cases h1
/-- Somebody said that. -/
def anyV (V : List En) (y : Bool) : Bool := V.any fun x => match x.v with | .bool z => z == y | _ => false
theorem AgV.no {V : List En} {ns vs : List Int} (h : AgV V ns vs) (hu : V.Pairwise fun a b => a.n ≠ b.n) : hasB vs 2 = anyV V false := by
  rw [Bool.eq_iff_iff, hasB_at, h.len]
  unfold anyV
  rw [List.any_eq_true]
  constructor
  · rintro ⟨i, hi, e⟩
    rcases h.at_ i hi with ⟨_, h1⟩ | ⟨x, h0, ⟨_, h2⟩ | ⟨h1, h2⟩⟩
    · omega
    · omega
    · exact ⟨x, (lk_mem h0).1, by rw [h1]; rfl⟩
  · rintro ⟨x, hx, hv⟩
    obtain ⟨i, hi, e⟩ := List.getElem_of_mem (h.keys x hx)
    have hg : ns.getD i 0 = x.n := by rw [List.getD_eq_getElem?_getD, List.getElem?_eq_getElem hi]; exact e
    refine ⟨i, hi, ?_⟩
    have hl := lk_of_mem hu hx
    rcases h.at_ i hi with ⟨h1, _⟩ | ⟨y, h0, h1⟩
    · rw [hg, hl] at h1; cases h1
    · rw [hg, hl] at h0
      cases h0
      rcases h1 with ⟨h1, _⟩ | ⟨_, h2⟩
      · rw [h1] at hv; simp at hv
      · exact h2
set_option maxRecDepth 100000 in
set_option maxHeartbeats 1000000 in
theorem tmay_any (A : Option Addr) (n cap : Nat) (zs : List Int) (w : World) (h : Il w A n zs) :
    Calls Try.prog 55 #[.slice A n cap] w fun e w' => e = .returned (.bool (okN zs)) ∧ w' = w := by
  have hde := Lib.hid (show okN zs = (upB (-1) zs && decide (0 < n)) from by rw [← h.len]; rfl)
  have hmost := h.most
  unfold maxLen at hmost
  have H := Lib.hid h
  clear h
  go_enter Try.func55, Try.ntmps55
  go_wp2
  go_loopg [3, 8] n (fun g s3 s8 wr => ∃ (k : Nat) (b : Int), k + g = n ∧ s8 = .int .i64 k ∧ s3 = .int .i64 b ∧ Hid (upB (-1) zs = upB b (zs.drop k)) ∧ wr = w)
  case atStart => exact ⟨0, -1, by omega, rfl, rfl, Lib.hid rfl, rfl⟩
  case round =>
    obtain ⟨k, b, hkg, rfl, rfl, HU, rfl⟩ := hrel
    cases gk with
    | zero =>
      have hlt : ¬ ((k : Int) < (n : Int)) := by omega
      have hU := Lib.hid (show okN zs = decide (0 < n) from by rw [hde.out, HU.out, List.drop_eq_nil_of_le (by rw [H.out.len]; omega)]; rfl)
      by_cases hn : 0 < n
      · have hn' : (n : Int) > 0 := by omega
        go_wp2
        go_ret
        exact ⟨by rw [hU.out]; simp [hn], rfl⟩
      · have hn' : ¬ ((n : Int) > 0) := by omega
        go_wp2
        go_ret
        exact ⟨by rw [hU.out]; simp [hn], rfl⟩
    | succ g =>
      have i0 : (0 : Int) ≤ (k : Int) := by omega
      have i1 : (k : Int) < (n : Int) := by omega
      obtain ⟨ad, rfl, h1, h2⟩ := H.out.ints.at_ (k := k) (by rw [H.out.len]; omega)
      have HD := Lib.hid (show upB (-1) zs = (decide (b < zs.getD k 0) && decide (zs.getD k 0 < 16) && upB (zs.getD k 0) (zs.drop (k + 1))) from by
        rw [HU.out, List.drop_eq_getElem_cons (by rw [H.out.len]; omega)]
        unfold upB
        rw [List.getD_eq_getElem?_getD, List.getElem?_eq_getElem (by rw [H.out.len]; omega)]
        cases zs.drop (k + 1) <;> rfl)
      generalize zs.getD k 0 = z at *
      by_cases z1 : z ≤ b
      · have hT := Lib.hid (show okN zs = false from by rw [hde.out, HD.out, show decide (b < z) = false from by simp; omega]; rfl)
        go_wp2
        go_ret
        exact ⟨by rw [hT.out]; rfl, rfl⟩
      · by_cases z2 : z ≥ 16
        · have hT := Lib.hid (show okN zs = false from by rw [hde.out, HD.out, show decide (z < 16) = false from by simp; omega]; simp)
          go_wp2
          go_ret
          exact ⟨by rw [hT.out]; rfl, rfl⟩
        · have hN := Lib.hid (show upB (-1) zs = upB z (zs.drop (k + 1)) from by rw [HD.out, show decide (b < z) = true from by simp; omega, show decide (z < 16) = true from by simp; omega]; rfl)
          go_wp2
          go_roundg g
          case measure => omega
          case rel => exact ⟨k + 1, z, by omega, by go_num, rfl, hN, rfl⟩
/-- Who was asked has not said that. -/
def Vis (V : List En) (y : Bool) (left : Lit → Bool) : Prop := ∀ x ∈ V, left (ky x.n) = false → x.v ≠ .bool y
theorem same_ky (n x : Int) : (ky n).sameKey (ky x) = decide (n = x) := by
  by_cases h : n = x
  · subst h; simp [WideAt.sameKey_self (ky_lit n)]
  · simp [h, Lit.sameKey]
set_option maxRecDepth 100000 in
set_option maxHeartbeats 2000000 in
theorem anySaid_any {w : World} {b k : Nat} {V : List En} (h : MpAt w b k 4 V) (hb : ∀ x ∈ V, ∃ z, x.v = .bool z) (y : Bool) :
    Calls Try.prog 58 #[.map (some b), .bool y] w fun e w' => e = .returned (.bool (anyV V y)) ∧ Below w.heap.size w w' := by
  have H := Lib.hid h
  have HB := Lib.hid hb
  obtain ⟨D, ho, hS0⟩ := h.own
  have HS := Lib.hid hS0
  have hbw := h.lt
  clear h hb hS0
  go_enter Try.func58, Try.ntmps58
  go_wp2_with (at_range; refine wpList_range_own _ rfl _ 67 rfl 3 85 law3 Try.underlying67 _ b k D rfl ho ?_; intro w3 hrg hg3 hs3)
  have HV := Lib.hid (show Vis V y (Maps.has D) from fun x hx hl => by
    have := HS.out.has x.n
    rw [lk_of_mem H.out.up hx, hl] at this
    cases this)
  have hb3 := only_grown hg3
  clear ho hg3
  go_frame
  go_loopw [6] (fun _ wr => ∃ (left : Lit → Bool) (cnt : Nat), wr.ranges Try.prog 3 ptE b w.heap.size k D left cnt ∧ Hid (Vis V y left) ∧ Below w.heap.size w wr)
    (fun _ wr => wr.rangeLeft b w.heap.size)
  case atStart => exact ⟨_, _, hrg, HV, hb3⟩
  case round =>
    clear hrg HV hb3
    obtain ⟨left, cnt, hrg, HV, hbb⟩ := hrel
    go_wp2_with (at_next; refine wpList_next_ranges (α := Int) (β := Option Nat) _ rfl _ rfl 3 law3 ptE (Value.int .i64) ptV (fun key kl hkey => by obtain ⟨x, rfl, _⟩ := Maps.keyOf_int_inv Try.underlying3 hkey; exact ⟨x, rfl⟩) (fun v y hv => by obtain ⟨c, rfl, _⟩ := ptE_inv hv; exact ⟨c, rfl⟩) b w.heap.size k D left cnt rfl hrg ?_ ?_)
    · intro _ hl
      have hT := Lib.hid (show anyV V y = false from by
        rw [← Bool.not_eq_true]
        unfold anyV
        rw [List.any_eq_true]
        rintro ⟨x, hx, hv⟩
        obtain ⟨z, hz⟩ := HB.out x hx
        have := HV.out x hx (hl _)
        rw [hz] at hv this
        simp at hv
        exact this (by rw [hv]))
      clear hl
      go_wp2
      go_ret
      exact ⟨by rw [hT.out]; rfl, hbb⟩
    · intro x c kl y1 y2 w4 cnt1 hkey hlx hRv hat hrg1 hlt hg1 hs1 hen
      obtain ⟨x', ex, rfl, hwx⟩ := Maps.keyOf_int_inv Try.underlying3 hkey
      cases ex
      obtain ⟨en, hen0, rfl⟩ : ∃ en, lk V x = some en ∧ c = some en.b := by
        have h1 := Maps.has_true_of_atKey hat
        rw [HS.out.has x] at h1
        obtain ⟨s', hs'⟩ := Option.isSome_iff_exists.1 h1
        obtain ⟨s2, e2, e3⟩ := ptE_inv hRv
        have e4 := HS.out.at_ x s' hs' (rdP none)
        have e5 : y1 = rdP s2 := congrArg Prod.fst e3
        rw [hat, e5] at e4
        have e6 := rdP_inj e4
        have e7 := ptV_inj e2
        cases hl : lk V x with
        | none => rw [hl] at hs'; cases hs'
        | some en =>
          rw [hl] at hs'
          cases hs'
          exact ⟨en, rfl, e7.trans e6⟩
      obtain ⟨hmem, hnx⟩ := lk_mem hen0
      obtain ⟨z, hz⟩ := HB.out en hmem
      have hen2 : (Instr.entry (.pointer (some ⟨w.heap.size, 0, none⟩))).run Try.prog w4 = .ok (.tuple #[.int .i64 x, .pointer (some ⟨en.b, 0, none⟩)]) w4 := hen
      have hbb4 := hbb.grown hg1 hbb.size (fun j ej => by cases ej; exact Nat.le_refl _)
      have kc := ((H.out.cells en hmem).below hbb4 (H.out.cells en hmem).lt).cell 0 _ rfl
      rw [hz] at kc
      have HV2 := Lib.hid (show z ≠ y → Vis V y (fun q => left q && !q.sameKey (ky x)) from fun hne x2 hx2 hl2 => by
        have hl3 : (left (ky x2.n) && !(ky x2.n).sameKey (ky x)) = false := hl2
        rw [same_ky] at hl3
        by_cases e : x2.n = x
        · have := lk_of_mem H.out.up hx2
          rw [e, hen0] at this
          cases this
          rw [hz]
          intro e2
          injection e2 with e2
          exact hne e2
        · exact HV.out x2 hx2 (by simpa [e] using hl3))
      have HT := Lib.hid (show z = y → anyV V y = true from fun e => by
        unfold anyV
        rw [List.any_eq_true]
        exact ⟨en, hmem, by rw [hz, e]; simp⟩)
      clear hen hRv hat hkey hlx hg1 hs1 HV hen0 hmem hnx hz
      cases hzy : (z == y)
      · have hN := Lib.hid (HV2.out (by simpa using hzy))
        go_wp2
        go_roundw
        case rel => exact ⟨_, _, hrg1, hN, hbb4⟩
        case measure => rw [hrg1.left_eq, hrg.left_eq]; exact hlt
      · have hN := Lib.hid (HT.out (by simpa using hzy))
        go_wp2
        go_ret
        exact ⟨by rw [hN.out]; rfl, hbb4⟩
end Go.Proofs.Ytodgkjmkjahkiaa
