/- slices.Backward; Stage. -/
import Derived.Test.YtinbaepligploaaA1
import Derived.RangeFuncNested
import Derived.RangeFuncBound
import Derived.RangeFuncCalls
import Derived.RangeFuncLeaves
import Derived.RangeFuncBox
import Derived.Shelf.Abstract
import Derived.Shelf.RegionOpen
import Derived.OwnWalkIn
import Derived.TacticsInMore
import Derived.LoopNIn
import Derived.LoopIn
import Derived.Maps.AppendAt
namespace Go.Proofs.Ytinbaepligploaa
open Go.RowKit Go.Shelf

attribute [local go_sem] Oper.semAt_some

/-- What has come behind k rounds: places and numbers, from the last one. -/
def back (zs : List Int) (k : Nat) : List (Int × Int) := (List.range k).map fun j => (((zs.length - 1 - j : Nat) : Int), zs.getD (zs.length - 1 - j) 0)
theorem back_succ (zs : List Int) (k : Nat) : back zs (k + 1) = back zs k ++ [(((zs.length - 1 - k : Nat) : Int), zs.getD (zs.length - 1 - k) 0)] := by simp [back, List.range_succ]
theorem back_length (zs : List Int) (k : Nat) : (back zs k).length = k := by simp [back]
abbrev encP (x : Int × Int) : Array Value := #[.int .i64 x.1, .int .i64 x.2]

set_option maxRecDepth 100000 in
theorem backward_any (A : Option Addr) (n cap : Nat) (w : World) : Calls Try.prog 49 #[.slice A n cap] w fun x w' => ∃ g, x = .returned (.func (.func 56) #[] #[.pointer (some ⟨g, 0, none⟩)]) ∧ Bk w' g 39 #[.slice A n cap] ∧ w.heap.size ≤ g ∧ Below w.heap.size w w' := by
  go_enter Try.func49, Try.ntmps49
  go_wp2_with fail
  go_ret
  exact ⟨_, rfl, Bk.new _ _ _, Nat.le_refl _, below_alloc _ _⟩

set_option maxRecDepth 100000 in
set_option maxHeartbeats 1000000 in
theorem back_stops (n Bn n₀ m cap : Nat) (hn : 1 ≤ n) (A : Option Addr) (zs : List Int) (w : World) (hm : zs.length = m + 1) (hmx : m + 1 ≤ maxLen) (hBn : Bn < n₀) (hn₀ : n₀ ≤ w.heap.size) (hk : Bk w Bn 39 #[.slice A (m + 1) cap]) (hz : IntsAt w A zs) (hA : ∀ ad, A = some ad → ad.block < n₀) :
    SeqStopsK Fence.wide n Try.prog 56 #[.pointer (some ⟨Bn, 0, none⟩)] encP (Below n₀) (fun ys => ys = back zs (m + 1)) (fun pre => ∃ k, k ≤ m + 1 ∧ pre = back zs k) (m + 1) w := fun l J Jx W hW hJ _ hY h0 => by
  have HM := Lib.hid hm
  clear hm
  unfold maxLen at hmx
  have k0 := hk.below hW (by omega)
  have z0 := hz.below hW (fun ad e => Nat.lt_of_lt_of_le (hA ad e) hn₀)
  have HA := Lib.hid hA
  clear hA
  have c0 := k0.cell 0 _ rfl
  refine callsIn_of_wp Try.func56 rfl trivial ?_ rfl
  simp only [Try.ntmps56, List.size_toArray, List.length_cons, List.length_nil, Nat.reduceAdd, Nat.reduceSub, Array.replicate_succ, Array.replicate_zero, List.push_toArray, List.append_toArray, List.nil_append, List.cons_append]
  gi_wp2_with fail
  clear c0
  gi_loopw [3] (fun i wr => ∃ k j : Nat, k + j = m + 1 ∧ ((j = 0 ∧ i = .int .i64 (-1)) ∨ ∃ j', j = j' + 1 ∧ i = .int .i64 j') ∧ J (back zs k) wr ∧ Bk wr Bn 39 #[.slice A (m + 1) cap] ∧ IntsAt wr A zs)
    (fun i _ => (intOf i + 1).toNat)
  case atStart => exact ⟨0, m + 1, by omega, .inr ⟨m, rfl, by go_num⟩, h0, k0, z0⟩
  case round =>
    obtain ⟨k, j, hkj, hi, hJs, kb, zb⟩ := hrel
    rcases hi with ⟨rfl, rfl⟩ | ⟨j', rfl, rfl⟩
    · obtain rfl : k = m + 1 := by omega
      gi_wp2
      go_end0
      exact ⟨⟨_, rfl⟩, .inl hJs⟩
    · have HK := Lib.hid (show m + 1 - 1 - k = j' by omega)
      obtain ⟨ad, rfl, hbl, hc⟩ := zb.at_ (k := j') (by rw [HM.out]; omega)
      obtain ⟨fn, tmps, assign, body, hy, hR⟩ := hY _ ((j' : Int), zs.getD j' 0) wr hJs (by rw [back_length]; omega)
      have HB := Lib.hid (back_succ zs k)
      rw [HM.out, HK.out] at HB
      generalize zs.getD j' 0 = z at *
      have c0 := kb.cell 0 _ rfl
      gi_wp2
      refine hR.mono ?_
      rintro e W3 (⟨rfl, hJ3, hk3⟩ | ⟨rfl, hJx3⟩)
      · rw [← HB.out] at hJ3
        have kb3 := kb.below hk3 hBn
        have zb3 := zb.below hk3 HA.out
        clear c0 hc
        gi_wp2
        go_roundw
        case rel => exact ⟨k + 1, j', by omega, by rcases j' with _ | j'; exact .inl ⟨rfl, by go_num⟩; exact .inr ⟨j', rfl, by go_num⟩, hJ3, kb3, zb3⟩
        case measure => simp [intOf]
      · rw [← HB.out] at hJx3
        clear c0 hc
        gi_wp2
        refine bodyPost_ret (results_none rfl _ _ _) rfl ?_
        exact ⟨⟨_, rfl⟩, .inr ⟨_, ⟨k + 1, by omega, rfl⟩, hJx3⟩⟩

/-- The first that has begun, from the last one. -/
def stageOf (l : List (Int × Int)) (now : Int) : Int := match l.find? (fun x => decide (x.2 ≤ now)) with | some x => x.1 | none => -1
def NoneYet (now : Int) (pre : List (Int × Int)) : Prop := ∀ y ∈ pre, ¬y.2 ≤ now
theorem NoneYet.snoc {now : Int} {pre : List (Int × Int)} {x : Int × Int} (h : NoneYet now pre) (hx : ¬x.2 ≤ now) : NoneYet now (pre ++ [x]) := by
  intro y hy
  rcases List.mem_append.1 hy with h1 | h1
  · exact h y h1
  · simp at h1; subst h1; exact hx
theorem stageOf_hit {pre rest : List (Int × Int)} {x : Int × Int} {now : Int} (h : NoneYet now pre) (hx : x.2 ≤ now) : stageOf (pre ++ [x] ++ rest) now = x.1 := by
  unfold stageOf
  rw [List.append_assoc, List.find?_append, List.find?_eq_none.2 (by intro y hy; simpa using h y hy)]
  simp [hx]
theorem stageOf_miss {pre : List (Int × Int)} {now : Int} (h : NoneYet now pre) : stageOf pre now = -1 := by
  unfold stageOf
  rw [List.find?_eq_none.2 (by intro y hy; simpa using h y hy)]
theorem back_prefix (zs : List Int) {k n : Nat} (h : k ≤ n) : ∃ t, back zs n = back zs k ++ t := by
  unfold back
  obtain ⟨m, rfl⟩ := Nat.exists_eq_add_of_le h
  rw [List.range_add, List.map_append]
  exact ⟨_, rfl⟩
theorem Bk.ownFrom {β : Type} {B b : Nat} {t : TypeId} (f : β → Array Value) (h : b < B) : OwnFrom B (fun (s : β) W => Bk W b t (f s)) := fun _ _ _ _ hs hg hr =>
  (hg.block b hs.lt (fun e => by have := (hr b e.symm).1; omega)).trans hs
/-- The five numbers. -/
abbrev five (r : Int × Int × Int × Int × Int) : List Int := [r.1, r.2.1, r.2.2.1, r.2.2.2.1, r.2.2.2.2]
def stageE (l wn g k f c now : Int) : Int := if mayB l wn g k f c then stageOf (back (five (rungE l wn g k f c)) 5) now else -1
abbrev StagePost (w : World) (b : Nat) (now : Int) (pre : List (Int × Int)) (W : World) : Prop := (∃ pre' x, pre = pre' ++ [x] ∧ NoneYet now pre' ∧ x.2 ≤ now ∧ Bk W b 3 #[.int .i64 x.1]) ∧ Below w.heap.size w W
theorem stagePost_own {w : World} {B b : Nat} {now : Int} (hb : b < B) (hw : w.heap.size ≤ B) : OwnFrom B (StagePost w b now) := fun s W W' row hs hg hr => by
  obtain ⟨⟨pre', x, h1, h2, h3, h4⟩, h5⟩ := hs
  exact ⟨⟨pre', x, h1, h2, h3, (hg.block b h4.lt (fun e => by have := (hr b e.symm).1; omega)).trans h4⟩, ownFrom_below (Nat.le_refl _) hw () W W' row h5 hg hr⟩

set_option maxRecDepth 100000 in
set_option maxHeartbeats 2000000 in
theorem stage_any (l wn g k f c now : Int) (w : World) : Calls Try.prog 32 #[.agg #[.int .i64 l, .int .i64 wn, .int .i64 g, .int .i64 k], .agg #[.int .i64 f, .int .i64 c], .int .i64 now] w fun x w' => x = .returned (.int .i64 (stageE l wn g k f c now)) ∧ Below w.heap.size w w' := by
  have st := ((PR.new w l wn g k f c).alloc (.cells #[.int .i64 now] 3)).alloc (.cells #[.int .i64 0] 3)
  have kn := (Bk.new ((w.alloc (.cells #[.int .i64 l, .int .i64 wn, .int .i64 g, .int .i64 k] 53)).alloc (.cells #[.int .i64 f, .int .i64 c] 54)) 3 #[.int .i64 now]).alloc (.cells #[.int .i64 0] 3)
  have kr := Bk.new (((w.alloc (.cells #[.int .i64 l, .int .i64 wn, .int .i64 g, .int .i64 k] 53)).alloc (.cells #[.int .i64 f, .int .i64 c] 54)).alloc (.cells #[.int .i64 now] 3)) 3 #[.int .i64 0]
  rw [size_alloc, size_alloc] at kn
  rw [size_alloc, size_alloc, size_alloc] at kr
  refine (callsIn_wide (n := 5)).1 ?_
  refine callsIn_of_wp_marks Try.func32 rfl trivial ?_ rfl
  simp only [Try.ntmps32, List.size_toArray, List.length_cons, List.length_nil, Nat.reduceAdd, Nat.reduceSub, Array.replicate_succ, Array.replicate_zero, List.push_toArray, List.append_toArray, List.nil_append, List.cons_append]
  gi_wp2_with fail
  refine ⟨trivial, (callsIn_wide.2 (may_any _ _ _ _ _ _ _)).mono ?_⟩
  rintro x w1 ⟨rfl, hb⟩
  replace st := st.next hb
  replace kn := kn.next hb
  replace kr := kr.next hb
  obtain ⟨a0, a1, a2, a3, b0, b1⟩ := st.cells
  clear hb
  have c0 := kr.cell 0 _ rfl
  have f0 := kr.frozen 0
  cases q1 : mayB l wn g k f c
  · have hz := Lib.hid (show stageE l wn g k f c now = -1 from by simp [stageE, q1])
    have kz := (kr.set 0 (.int .i64 (-1))).cell 0 _ rfl
    have lz := st.low.setCell (p := ⟨w.heap.size + 1 + 1 + 1, 0, none⟩) (show w.heap.size ≤ w.heap.size + 1 + 1 + 1 by omega) (.int .i64 (-1))
    gi_wp2_with fail
    rw [hz.out]
    exact ⟨.int .i64 (-1), by simp [results, Try.results32, go_sem, kz], rfl, lz⟩
  have HS := Lib.hid (show stageE l wn g k f c now = stageOf (back (five (rungE l wn g k f c)) 5) now from by simp [stageE, q1])
  gi_wp2_with fail
  refine ⟨trivial, (callsIn_wide.2 (rungs_any _ _ _ _ _ _ _)).mono ?_⟩
  rintro x w2 ⟨rfl, hb⟩
  replace st := st.next hb
  replace kn := kn.next hb
  replace kr := kr.next hb
  clear hb a0 a1 a2 a3 b0 b1 c0 f0 q1
  obtain ⟨⟨r0, r1, r2, r3, r4⟩, hr⟩ : ∃ r, r = rungE l wn g k f c := ⟨_, rfl⟩
  rw [← hr] at HS ⊢
  clear hr
  have ka := Bk.new w2 57 #[.int .i64 r0, .int .i64 r1, .int .i64 r2, .int .i64 r3, .int .i64 r4]
  have lb := below_alloc w2 (.cells #[.int .i64 r0, .int .i64 r1, .int .i64 r2, .int .i64 r3, .int .i64 r4] 57)
  replace st := st.next lb
  replace kn := kn.next lb
  replace kr := kr.next lb
  clear lb
  gi_wp2_with fail
  refine ⟨trivial, (callsIn_wide.2 (backward_any _ _ _ _)).mono ?_⟩
  rintro x W1 ⟨gb, rfl, kg, -, hb⟩
  replace st := st.next hb
  replace kn := kn.next hb
  replace kr := kr.next hb
  replace ka := ka.next hb
  clear hb
  have hzs : IntsAt W1 (some ⟨w2.heap.size, 0, none⟩) [r0, r1, r2, r3, r4] := by
    refine .inr ⟨_, rfl, ka.lt, ?_⟩
    intro j hj
    match j, hj with
    | 0, _ => exact ka.cell 0 _ rfl
    | 1, _ => exact ka.cell 1 _ rfl
    | 2, _ => exact ka.cell 2 _ rfl
    | 3, _ => exact ka.cell 3 _ rfl
    | 4, _ => exact ka.cell 4 _ rfl
  have hal := ka.lt
  have hgl := kg.lt
  have hrl := kr.lt
  have hnl := kn.lt
  have hsz := st.low.size
  gi_wp2_with fail
  refine wpIn_rangeFunc_ownG rfl (by omega) (gf := 56) (lb := #[.pointer (some ⟨gb, 0, none⟩)]) rfl trivial (enters_of Try.func56 (by kernel_rfl) rfl)
    (back_stops 4 gb W1.heap.size 4 5 (by omega) (some ⟨w2.heap.size, 0, none⟩) [r0, r1, r2, r3, r4] W1 rfl (by unfold maxLen; omega) hgl (Nat.le_refl _) kg hzs (by rintro ad ⟨⟩; exact hal)) belowK_t (belowK_b (Nat.le_refl _)) (Below.refl _ _) (fun _ => rfl)
    (fun pre W => NoneYet now pre ∧ Below W1.heap.size W1 W)
    (fun cc pre W => cc = .ret ∧ StagePost w (w.heap.size + 1 + 1 + 1) now pre W)
    (fun s W W' row hs hg hr => ⟨hs.1, ownFrom_below (Nat.le_refl _) (Nat.le_refl _) s W W' row hs.2 hg hr⟩)
    (fun cc s W W' row hs hg hr => ⟨hs.1, stagePost_own hrl hsz s W W' row hs.2 hg hr⟩)
    ⟨(fun y hy => by simp at hy), Below.refl _ _⟩
    ?a1 ?assign ?body ?done ?stop
  case assign =>
    intro l x W K hK
    gi_wp2
    exact hK
  case body =>
    rintro l pre x W ⟨hpre, hB⟩ hlt
    have c0 := (kn.below hB hnl).cell 0 _ rfl
    by_cases hx : x.2 ≤ now
    · have kq := kr.below hB hrl
      have q0 := kq.cell 0 _ rfl
      have f0 := kq.frozen 0
      gi_wp2
      refine ⟨KeepsFrom.of_grownBy (grownBy_setCell' _ _ _) (by rintro j ⟨⟩; exact hrl), rfl, ⟨pre, x, rfl, hpre, hx, kq.set 0 _⟩, ?_⟩
      exact (bmore st.low hB).setCell (show w.heap.size ≤ w.heap.size + 1 + 1 + 1 by omega) _
    · gi_wp2
      exact ⟨KeepsFrom.refl _ _, Below.refl _ _, hpre.snoc (by omega), hB⟩
  case done =>
    rintro D ys W hD rfl ⟨hpre, hB⟩ hK
    have kq := kr.below hB hrl
    have q0 := kq.cell 0 _ rfl
    have f0 := kq.frozen 0
    gi_wp2
    have hne : w.heap.size + 1 + 1 + 1 ≠ D := by omega
    have hK2 := (heap_setCell_other W ⟨w.heap.size + 1 + 1 + 1, 0, none⟩ D (.int .i64 (-1)) hne.symm).trans hK
    have kz : Bk ((W.setCell ⟨w.heap.size + 1 + 1 + 1, 0, none⟩ (.int .i64 (-1))).putObj D (.deferred none)) (w.heap.size + 1 + 1 + 1) 3 #[.int .i64 (-1)] := (World.putObj_heap_other hne).trans (kq.set 0 (.int .i64 (-1)))
    have q9 := kz.cell 0 _ rfl
    refine ⟨by simp, .inl ⟨_, _, rfl, run_takeDeferred hK2, ?_⟩⟩
    refine ⟨.int .i64 (-1), by simp [results, Try.results32, go_sem, q9], ?_, ?_⟩
    · rw [HS.out, stageOf_miss hpre]
    · exact ((bmore st.low hB).setCell (show w.heap.size ≤ w.heap.size + 1 + 1 + 1 by omega) _).trans (belowK_b (w := w) (Nat.le_refl _) _ D _ _ (by omega) hK2 rfl rfl)
  case stop =>
    rintro D cc pre W hD ⟨k, hk, rfl⟩ ⟨rfl, ⟨pre', x, hp, h1, h2, h3⟩, hB⟩ hK
    gi_wp2
    have hne : w.heap.size + 1 + 1 + 1 ≠ D := by omega
    have kz : Bk (W.putObj D (.deferred none)) (w.heap.size + 1 + 1 + 1) 3 #[.int .i64 x.1] := (World.putObj_heap_other hne).trans h3
    have q9 := kz.cell 0 _ rfl
    refine ⟨by simp, .inl ⟨_, _, rfl, run_takeDeferred hK, ?_⟩⟩
    refine ⟨.int .i64 x.1, by simp [results, Try.results32, go_sem, q9], ?_, ?_⟩
    · obtain ⟨t, ht⟩ := back_prefix [r0, r1, r2, r3, r4] hk
      have e5 : stageOf (back [r0, r1, r2, r3, r4] 5) now = x.1 := by
        rw [show (5 : Nat) = 4 + 1 from rfl, ht, hp]
        exact stageOf_hit h1 h2
      rw [HS.out]
      exact congrArg (fun z => Ending.returned (Value.int IntKind.i64 z)) e5.symm
    · exact hB.trans (belowK_b (w := w) (Nat.le_refl _) W D _ _ (by omega) hK rfl rfl)
end Go.Proofs.Ytinbaepligploaa
