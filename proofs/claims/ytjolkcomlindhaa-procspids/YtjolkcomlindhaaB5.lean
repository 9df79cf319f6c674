/- A book: All, Jobs. -/
import Derived.Test.YtjolkcomlindhaaB4
import Derived.Maps.OwnIn
namespace Go.Proofs.Ytjolkcomlindhaa
open Go.RowKit Go.Shelf Go.Maps Go.Sort

attribute [local go_sem] Oper.semAt_some

def allG (l : List Gp) : Int := allS (raw l)
theorem allG_snoc (l : List Gp) (x : Gp) : allG (l ++ [x]) = addE (allG l) x.1.2 := by simp [allG, allS, raw]
theorem allG_wf (l : List Gp) : 0 ≤ allG l ∧ allG l ≤ 9223372036854775807 := by
  unfold allG allS
  have hs : ∀ p ∈ raw l, Good p := fun p hp => by
    obtain ⟨g, _, rfl⟩ := List.mem_map.1 hp
    exact g.2
  have := sumV_nonneg hs
  rw [fold_sum hs 0 (by omega)]
  omega
theorem Bk.ownFrom {β : Type} {B b : Nat} {t : TypeId} (f : β → Array Value) (h : b < B) : OwnFrom B (fun (s : β) W => Bk W b t (f s)) := fun _ _ _ _ hs hg hr =>
  (hg.block b hs.lt (fun e => by have := (hr b e.symm).1; omega)).trans hs
theorem kv_setInt {W : World} {v n₀ : Nat} {t : TypeId} {x y : Int} (h : Bk W v t #[.int .i64 x]) : Kv v n₀ W (W.setCell ⟨v, 0, none⟩ (.int .i64 y)) := by
  have hg := grownBy_setCell' W v (.int .i64 y)
  refine ⟨hg.size, fun i hi hv _ _ => hg.block i hi (fun e => hv (by cases e; rfl)), fun i hi => ?_⟩
  obtain ⟨a, n, c, e1, _⟩ := hi
  rw [(h.set 0 (.int .i64 y)).cell 0 (.int .i64 y) rfl] at e1
  cases e1
set_option maxRecDepth 100000 in
set_option maxHeartbeats 2000000 in
theorem all_walk (w : World) (a : Option Addr) (G : List Gp) (N : Nat) (Sp : List Gp → Prop)
    (hseq : SeqStopsK Fence.wide 8 Try.prog 60 #[.pointer (some ⟨w.heap.size + 1, 0, none⟩)] encP (Kv w.heap.size (w.heap.size + 2)) (fun ys => ys = G) Sp N ((w.alloc (.cells #[.int .i64 0] 3)).alloc (.cells #[.pointer a] 34))) :
    Calls Try.prog 27 #[.pointer a] w fun e w' => e = .returned (.int .i64 (allG G)) ∧ Below w.heap.size w w' := by
  have kv := (Bk.new w 3 #[.int .i64 0]).alloc (.cells #[.pointer a] 34)
  have hb0 : Below w.heap.size w ((w.alloc (.cells #[.int .i64 0] 3)).alloc (.cells #[.pointer a] 34)) := (below_alloc w _).alloc (by simp) _
  have hsz : ((w.alloc (.cells #[.int .i64 0] 3)).alloc (.cells #[.pointer a] 34)).heap.size = w.heap.size + 2 := by simp
  refine (callsIn_wide (n := 9)).1 ?_
  refine callsIn_of_wp_marks Try.func27 rfl trivial ?_ rfl
  simp only [Try.ntmps27, List.size_toArray, List.length_cons, List.length_nil, Nat.reduceAdd, Nat.reduceSub, Array.replicate_succ, Array.replicate_zero, List.push_toArray, List.append_toArray, List.nil_append, List.cons_append]
  gi_wp2_with fail
  refine ⟨trivial, (callsIn_wide.2 (rising_any _ _)).mono ?_⟩
  rintro x w1 ⟨rfl, rfl⟩
  rw [size_alloc]
  gi_wp2_with fail
  generalize (w.alloc (.cells #[.int .i64 0] 3)).alloc (.cells #[.pointer a] 34) = W1 at *
  have hv1 : w.heap.size < W1.heap.size := by omega
  refine wpIn_rangeFunc_ownG rfl (by omega) (gf := 60) (lb := #[.pointer (some ⟨w.heap.size + 1, 0, none⟩)]) rfl trivial (enters_of Try.func60 (by kernel_rfl) rfl)
    hseq Kv.trans (Kv.obj (by omega) hv1) (Below.refl _ _) (fun _ => rfl)
    (fun pre W => Bk W w.heap.size 3 #[.int .i64 (allG pre)] ∧ Below w.heap.size w W)
    (fun _ _ _ => False)
    (fun s W W' row hs hg hr => ⟨Bk.ownFrom (fun pre : List Gp => #[.int .i64 (allG pre)]) hv1 s W W' row hs.1 hg hr, ownFrom_below (Nat.le_refl _) (by omega) s W W' row hs.2 hg hr⟩)
    (fun cc s W W' row hs hg hr => hs)
    ⟨kv, hb0⟩
    ?a1 ?assign ?body ?done ?stop
  case assign =>
    intro l x W K hK
    gi_wp2
    exact hK
  case body =>
    rintro l pre x W ⟨hb, hB⟩ hlt
    have c0 := hb.cell 0 _ rfl
    have f0 := hb.frozen 0
    have A := Lib.hid (add_any (allG pre) x.1.2 (wf_of (allG_wf pre)) (wf_of x.2.2))
    gi_wp2_with fail
    refine ⟨trivial, (CallsIn.inRound l (callsIn_wide.2 (A.out _))).mono ?_⟩
    rintro e W2 ⟨rfl, rfl⟩
    gi_wp2
    refine ⟨KeepsFrom.of_grownBy (grownBy_setCell' _ _ _) (by rintro j ⟨⟩; exact hv1), kv_setInt hb, ?_, hB.setCell (Nat.le_refl _) _⟩
    rw [allG_snoc]
    exact hb.set 0 _
  case done =>
    rintro D ys W hD rfl ⟨hb, hB⟩ hK
    have c0 := hb.cell 0 _ rfl
    gi_wp2
    refine ⟨by simp, .inl ⟨_, _, rfl, run_takeDeferred hK, ?_⟩⟩
    exact ⟨_, results_tmp rfl _ _ _, rfl, hB.trans (belowK_b (w := w) (Nat.le_refl _) W D _ _ (by omega) hK rfl rfl)⟩
  case stop =>
    rintro D cc pre W hD _ hf hK
    exact hf.elim
/-- The jobs. -/
def keysG (l : List Gp) : List Int := (raw l).map (·.1)
theorem keysG_snoc (l : List Gp) (x : Gp) : keysG (l ++ [x]) = keysG l ++ [x.1.1] := by simp [keysG, raw]
theorem keysG_len (l : List Gp) : (keysG l).length = l.length := by simp [keysG, raw]
theorem ownBlock_pt {W : World} {v i : Nat} {t : TypeId} {vv : Value} {n : Nat} {base size : Nat} {e : TypeId} {xs : List Value} (hb : Boxed W v t vv) (hrow : W.ownsRow base e size vv n xs) (h : vv.ownBlock = some i) : Pt W v i := by
  obtain ⟨A, cap, rfl⟩ := own_form hrow
  cases A with
  | none => simp [Value.ownBlock] at h
  | some a => exact ⟨a, n, cap, hb.cell, by simpa [Value.ownBlock] using h⟩
theorem kv_append {W w1 : World} {v n₀ base n : Nat} {t : TypeId} {vv v' : Value} {xs : List Value} {tmp : Obj} (hb : Boxed W v t vv) (hb1 : Boxed w1 v t vv) (hrow : W.ownsRow base 3 1 vv n xs) (hgrow : (W.alloc tmp).grownBy w1 vv.ownBlock) (hat : v'.ownBlock = vv.ownBlock ∨ v'.ownBlock = some (W.alloc tmp).heap.size) : Kv v n₀ W (w1.setCell ⟨v, 0, none⟩ v') := by
  have hg := grownBy_setCell' w1 v v'
  have hs1 := hgrow.size
  have hs2 := hg.size
  rw [size_alloc] at hs1
  refine ⟨by omega, fun i hi hv hp _ => ?_, fun i hi => ?_⟩
  · refine (hg.block i (by omega) (fun e => hv (by cases e; rfl))).trans ((hgrow.block i (by rw [size_alloc]; omega) (fun e => hp (ownBlock_pt hb hrow e.symm))).trans (Below.heap_alloc W tmp i hi))
  · obtain ⟨a, m, c, e1, e2⟩ := hi
    rw [(hb1.set v').cell] at e1
    cases e1
    have e3 : (Value.slice (some a) m c).ownBlock = some i := by simp [Value.ownBlock, e2]
    rw [e3] at hat
    rcases hat with q | q
    · exact .inl (ownBlock_pt hb hrow q.symm)
    · right
      rw [size_alloc] at q
      cases q
      omega
set_option maxRecDepth 100000 in
set_option maxHeartbeats 2000000 in
theorem jobs_walk (w : World) (a : Option Addr) (G : List Gp) (N : Nat) (hN : N ≤ 1000) (Sp : List Gp → Prop)
    (hseq : SeqStopsK Fence.wide 8 Try.prog 60 #[.pointer (some ⟨w.heap.size + 1, 0, none⟩)] encP (Kv w.heap.size (w.heap.size + 2)) (fun ys => ys = G) Sp N ((w.alloc (.cells #[.slice none 0 0] 45)).alloc (.cells #[.pointer a] 34))) :
    Calls Try.prog 30 #[.pointer a] w (Keys w (keysG G)) := by
  obtain ⟨i0, hi, hz0, hz1, hz2⟩ := info_parts info3
  have kv : Boxed ((w.alloc (.cells #[.slice none 0 0] 45)).alloc (.cells #[.pointer a] 34)) w.heap.size 45 (.slice none 0 0) := (Boxed.new w 45 (.slice none 0 0)).alloc _
  have hb0 : Below w.heap.size w ((w.alloc (.cells #[.slice none 0 0] 45)).alloc (.cells #[.pointer a] 34)) := (below_alloc w _).alloc (by simp) _
  have hsz : ((w.alloc (.cells #[.slice none 0 0] 45)).alloc (.cells #[.pointer a] 34)).heap.size = w.heap.size + 2 := by simp
  refine (callsIn_wide (n := 9)).1 ?_
  refine callsIn_of_wp_marks Try.func30 rfl trivial ?_ rfl
  simp only [Try.ntmps30, List.size_toArray, List.length_cons, List.length_nil, Nat.reduceAdd, Nat.reduceSub, Array.replicate_succ, Array.replicate_zero, List.push_toArray, List.append_toArray, List.nil_append, List.cons_append]
  gi_wp2_with fail
  refine ⟨trivial, (callsIn_wide.2 (rising_any _ _)).mono ?_⟩
  rintro x w1 ⟨rfl, rfl⟩
  rw [size_alloc]
  gi_wp2_with fail
  generalize (w.alloc (.cells #[.slice none 0 0] 45)).alloc (.cells #[.pointer a] 34) = W1 at *
  have hv1 : w.heap.size < W1.heap.size := by omega
  refine wpIn_rangeFunc_ownG rfl (by omega) (gf := 60) (lb := #[.pointer (some ⟨w.heap.size + 1, 0, none⟩)]) rfl trivial (enters_of Try.func60 (by kernel_rfl) rfl)
    hseq Kv.trans (Kv.obj (by omega) hv1) (Below.refl _ _) (fun _ => rfl)
    (fun pre W => (∃ v, Boxed W w.heap.size 45 v ∧ W.ownsRow w.heap.size 3 1 v pre.length (iv (keysG pre)) ∧ True) ∧ Below w.heap.size w W)
    (fun _ _ _ => False)
    (OwnFrom.and (Own.from (holdsRow_own w.heap.size w.heap.size 45 3 1 (fun pre : List Gp => pre.length) (fun pre => iv (keysG pre)) (fun _ _ => True)) _) (ownFrom_below (Nat.le_refl _) (by omega)))
    (fun cc s W W' row hs hg hr => hs)
    ⟨⟨_, kv, World.ownsRow_nil _ _ _ _, trivial⟩, hb0⟩
    ?a1 ?assign ?body ?done ?stop
  case assign =>
    intro l x W K hK
    gi_wp2
    exact hK
  case body =>
    rintro l pre x W ⟨⟨v, hv, hrow, -⟩, hB⟩ hlt
    obtain ⟨A, cap, rfl⟩ := own_form hrow
    have hc := hv.cell
    have hsW := hB.size
    gi_wp2_with (gi_at_builtin; refine wpListIn_append_own_at _ rfl _ _ 45 rfl w.heap.size 3 i0 (.int .i64 0) 1 8 Try.underlying45 hi hz0 hz1 hz2 rfl (by decide) _ _ _ rfl (hrow.alloc _) ⟨W.heap.size, 0, none⟩ 1 1 [.int .i64 x.1.1] rfl rfl (cell_one_new _ _ _) (by simp [Value.oneCell']) (by unfold maxLen; omega) (by omega) (by simp; omega) ?_; intro v' w1 hown' hgrow _ hat; obtain ⟨g', cap', rfl⟩ := ownsRow_succ hown'; obtain ⟨hv3, hv4, hr4, hk4, hb4⟩ := hv.appended (by decide) hrow hB.size (Nat.le_refl _) hown' hgrow; have hkv := kv_append (n₀ := w.heap.size + 2) hv hv3 hrow hgrow hat; have hc3 := hv3.cell; have hf3 := hv3.frozen)
    exact ⟨hk4.from _, hkv, ⟨_, hv4, by rw [keysG_snoc, iv_snoc, List.length_append]; exact hr4, trivial⟩, hB.trans hb4⟩
  case done =>
    rintro D ys W hD rfl ⟨⟨v, hv, hrow, -⟩, hB⟩ hK
    have hc := hv.cell
    gi_wp2
    refine ⟨by simp, .inl ⟨_, _, rfl, run_takeDeferred hK, ?_⟩⟩
    refine ⟨_, results_tmp rfl _ _ _, v, rfl, ?_, hB.trans (belowK_b (w := w) (Nat.le_refl _) W D _ _ (by omega) hK rfl rfl)⟩
    rw [keysG_len]
    exact ownsRow_putObj hrow _ hK rfl
  case stop =>
    rintro D cc pre W hD _ hf hK
    exact hf.elim
section
variable {w : World} {p k : Nat} {m : Option Nat} {L : List (Int × Int)}
theorem rising_at (h : BookAt w p m k L) (hl : L.length ≤ 1000) (G : List Gp) (hG : raw G = L) (t : TypeId) (x : Value) (hx : ∀ a n c, x ≠ .slice (some a) n c) :
    SeqStopsK Fence.wide 8 Try.prog 60 #[.pointer (some ⟨w.heap.size + 1, 0, none⟩)] encP (Kv w.heap.size (w.heap.size + 2)) (fun ys => ys = G) (fun pre => ∃ j, j ≤ L.length ∧ pre = G.take j) L.length ((w.alloc (.cells #[x] t)).alloc (.cells #[.pointer (some ⟨p, 0, none⟩)] 34)) := by
  have hp := h.blk.lt
  have hb0 : Below w.heap.size w ((w.alloc (.cells #[x] t)).alloc (.cells #[.pointer (some ⟨p, 0, none⟩)] 34)) := (below_alloc w _).alloc (by simp) _
  refine rising_stops 8 (w.heap.size + 1) (w.heap.size + 2) p k w.heap.size (by omega) m L G hG _ (h.next hb0) hl ?_ (by omega) (by omega) (fun b e => by have := h.lt e; omega) (by simp) (by simp; omega) ?_
  · have := Bk.new (w.alloc (.cells #[x] t)) 34 #[.pointer (some ⟨p, 0, none⟩)]
    rw [size_alloc] at this
    exact this
  · rintro i ⟨a, n, c, e1, _⟩
    rw [((Bk.new w t #[x]).alloc _).cell 0 x rfl] at e1
    cases e1
    exact hx a n c rfl
theorem all_any (h : BookAt w p m k L) (hl : L.length ≤ 1000) : Calls Try.prog 27 #[.pointer (some ⟨p, 0, none⟩)] w fun e w' => e = .returned (.int .i64 (allS L)) ∧ Below w.heap.size w w' := by
  obtain ⟨G, hG⟩ := raw_ex h.ok.good
  have := all_walk w _ G _ _ (rising_at h hl G hG 3 (.int .i64 0) (fun _ _ _ e => by cases e))
  unfold allG at this
  rw [hG] at this
  exact this
theorem jobs_any (h : BookAt w p m k L) (hl : L.length ≤ 1000) : Calls Try.prog 30 #[.pointer (some ⟨p, 0, none⟩)] w (Keys w (L.map (·.1))) := by
  obtain ⟨G, hG⟩ := raw_ex h.ok.good
  have := jobs_walk w _ G _ hl _ (rising_at h hl G hG 45 (.slice none 0 0) (fun _ _ _ e => by cases e))
  unfold keysG at this
  rw [hG] at this
  exact this
end
theorem all_nil (w : World) : Calls Try.prog 27 #[.pointer none] w fun e w' => e = .returned (.int .i64 0) ∧ Below w.heap.size w w' := by
  refine all_walk w none [] 0 _ (rising_nil 8 (w.heap.size + 1) (w.heap.size + 2) w.heap.size (by omega) _ ?_)
  have := Bk.new (w.alloc (.cells #[.int .i64 0] 3)) 34 #[.pointer none]
  rw [size_alloc] at this
  exact this
theorem jobs_nil (w : World) : Calls Try.prog 30 #[.pointer none] w (Keys w []) := by
  refine jobs_walk w none [] 0 (by omega) _ (rising_nil 8 (w.heap.size + 1) (w.heap.size + 2) w.heap.size (by omega) _ ?_)
  have := Bk.new (w.alloc (.cells #[.slice none 0 0] 45)) 34 #[.pointer none]
  rw [size_alloc] at this
  exact this
end Go.Proofs.Ytjolkcomlindhaa
