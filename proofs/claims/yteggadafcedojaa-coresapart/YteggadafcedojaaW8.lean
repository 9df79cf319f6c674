/- Order. -/
import Derived.Test.YteggadafcedojaaW7
import Derived.Lib.SmallJoins
namespace Go.Proofs.Yteggadafcedojaa
open Go.RowKit Go.Shelf

attribute [local go_sem] Oper.semAt_some run_store_fn run_store_nilfn

/-- The distribution of that number is function fid; its cores are of 0, of 1, .. -/
def IsDist (d : Int) (fid : Nat) (s p : Nat) (of : Nat → Nat) : Prop := (d = 0 ∧ fid = 46 ∧ of = id) ∨ (d = 1 ∧ fid = 47 ∧ of = cyc s p)
theorem dist_any {d : Int} {fid s p : Nat} {of : Nat → Nat} (hd : IsDist d fid s p of) (w : World) (h : LOk s p) : Calls Try.prog 29 #[.agg #[.int .i64 s, .int .i64 p], .int .i64 d] w (DistOf s p fid w) := by
  rcases hd with ⟨rfl, rfl, rfl⟩ | ⟨rfl, rfl, rfl⟩
  · exact dist_block s p w h
  · exact dist_cyclic s p w h
theorem dist_stops {d : Int} {fid s p : Nat} {of : Nat → Nat} (hd : IsDist d fid s p of) (n Bn n₀ : Nat) (hn : 1 ≤ n) (h : LOk s p) (w : World) (hBn : Bn < n₀) (hn₀ : n₀ ≤ w.heap.size) (hk : Bk w Bn 28 #[.int .i64 s, .int .i64 p]) :
    SeqStopsK Fence.wide n Try.prog fid #[.pointer (some ⟨Bn, 0, none⟩)] (fun x : Core => #[Value.int .i64 (x.1 : Nat)]) (Below n₀) (fun ys => ys = upto of (s * p)) (fun pre => ∃ k, k ≤ s * p ∧ pre = upto of k) (s * p) w := by
  rcases hd with ⟨rfl, rfl, rfl⟩ | ⟨rfl, rfl, rfl⟩
  · exact block_stops n Bn n₀ s p hn h w hBn hn₀ hk
  · exact cyclic_stops n Bn n₀ s p hn h w hBn hn₀ hk
theorem dist_enters {d : Int} {fid s p : Nat} {of : Nat → Nat} (hd : IsDist d fid s p of) : ∀ args w, (callFunc fid args).run Try.prog w = .ok (.enter fid args) w := by
  rcases hd with ⟨rfl, rfl, rfl⟩ | ⟨rfl, rfl, rfl⟩
  · exact enters_of Try.func46 (by kernel_rfl) rfl
  · exact enters_of Try.func47 (by kernel_rfl) rfl

theorem info3 : (Try.prog.info? 3).map (fun i => (i.zero, i.size, i.bytes)) = some (some (.int .i64 0), 1, 8) := by kernel_rfl
/-- Cores as values. -/
def cv (l : List Core) : List Value := l.map fun x => Value.int .i64 (x.1 : Nat)
theorem cv_snoc (l : List Core) (x : Core) : cv (l ++ [x]) = cv l ++ [Value.int .i64 (x.1 : Nat)] := by simp [cv]
theorem cv_len (l : List Core) : (cv l).length = l.length := by simp [cv]

/-- A slice of its own that holds these cores. -/
def Gives (w : World) (zs : List Core) (er : Int) (e : Ending) (w' : World) : Prop :=
  ∃ v, e = .returned (.tuple #[v, .int .i64 er]) ∧ w'.ownsRow w.heap.size 3 1 v zs.length (cv zs) ∧ Below w.heap.size w w'

set_option maxRecDepth 100000 in
set_option maxHeartbeats 2000000 in
theorem order_ok {d : Int} {fid s p : Nat} {of : Nat → Nat} (hd : IsDist d fid s p of) (w : World) (h : LOk s p) :
    Calls Try.prog 8 #[.agg #[.int .i64 s, .int .i64 p], .int .i64 d] w (Gives w (upto of (s * p)) 0) := by
  have H := Lib.hid h
  have HD := Lib.hid hd
  have h5 := h.2.2.2.2
  clear h hd
  obtain ⟨i0, hi, hz0, hz1, hz2⟩ := info_parts info3
  have hb0 := (Below.refl _ w).alloc (Nat.le_refl _) (.cells #[.int .i64 s, .int .i64 p] 28)
  refine (callsIn_wide (n := 5)).1 ?_
  refine callsIn_of_wp_marks Try.func8 rfl trivial ?_ rfl
  simp only [Try.ntmps8, List.size_toArray, List.length_cons, List.length_nil, Nat.reduceAdd, Nat.reduceSub, Array.replicate_succ, Array.replicate_zero, List.push_toArray, List.append_toArray, List.nil_append, List.cons_append]
  gi_wp2_with fail
  refine ⟨trivial, (callsIn_wide.2 (dist_any HD.out _ H.out)).mono ?_⟩
  rintro e w2 ⟨g, rfl, kg, hb2⟩
  replace hb0 := bmore hb0 hb2
  clear hb2
  gi_wp2_with fail
  have kg1 := kg.alloc (.cells #[.func (.func fid) #[] #[.pointer (some ⟨g, 0, none⟩)]] 66)
  have hgl := kg.lt
  replace hb0 := hb0.alloc hb0.size (.cells #[.func (.func fid) #[] #[.pointer (some ⟨g, 0, none⟩)]] 66)
  clear kg
  obtain ⟨W1, hW1⟩ : ∃ W1, W1 = w2.alloc (.cells #[.func (.func fid) #[] #[.pointer (some ⟨g, 0, none⟩)]] 66) := ⟨_, rfl⟩
  have hs1 : W1.heap.size = w2.heap.size + 1 := by rw [hW1]; simp
  rw [← hW1] at kg1 hb0 ⊢
  have bO := Boxed.new W1 24 (.slice none 0 0)
  have hB0 : Below W1.heap.size W1 (W1.alloc (.cells #[.slice none 0 0] 24)) := (Below.refl _ W1).alloc (Nat.le_refl _) _
  rw [← hs1]
  have hg1 : g < W1.heap.size := by omega
  clear hs1 hW1
  refine wpIn_rangeFunc_ownG rfl (by omega) (gf := fid) (lb := #[.pointer (some ⟨g, 0, none⟩)]) rfl trivial (dist_enters HD.out)
    (dist_stops HD.out 4 g W1.heap.size (by omega) H.out _ hg1 (by simp) (kg1.alloc _)) belowK_t (belowK_b (by simp)) (Below.refl _ _) (fun _ => rfl)
    (fun pre W => (∃ v, Boxed W W1.heap.size 24 v ∧ W.ownsRow W1.heap.size 3 1 v pre.length (cv pre) ∧ True) ∧ Below W1.heap.size W1 W)
    (fun _ _ _ => False)
    (OwnFrom.and (Own.from (holdsRow_own W1.heap.size W1.heap.size 24 3 1 (fun pre : List Core => pre.length) (fun pre => cv pre) (fun _ _ => True)) _) (ownFrom_below (Nat.le_refl _) (by simp)))
    (fun _ _ _ _ _ hs _ _ => hs)
    ⟨⟨_, bO, World.ownsRow_nil _ _ _ _, trivial⟩, hB0⟩
    ?a1 ?assign ?body ?done ?stop
  case assign =>
    intro l x W K hK
    gi_wp2
    exact hK
  case body =>
    rintro l pre x W ⟨⟨v, hv, hrow, _⟩, hB⟩ hlt
    have hc := hv.cell
    gi_wp2_with (gi_at_builtin; refine wpListIn_append_own _ rfl _ _ 24 rfl W1.heap.size 3 i0 (.int .i64 0) 1 8 Try.underlying24 hi hz0 hz1 hz2 rfl (by decide) _ _ _ rfl (hrow.alloc _) ⟨W.heap.size, 0, none⟩ 1 1 [.int .i64 (x.1 : Nat)] rfl rfl (cell_one_new _ _ _) (by simp [Value.oneCell']) (by unfold maxLen; omega) (by omega) (by have := hB.size; simp; omega) ?_; intro v' w1 hown' hgrow _; obtain ⟨g', cap', rfl⟩ := ownsRow_succ hown'; obtain ⟨hv1, hv2, hr2, hk2, hb2⟩ := hv.appended (by decide) hrow hB.size (Nat.le_refl _) hown' hgrow; have hc1 := hv1.cell; have hf1 := hv1.frozen)
    exact ⟨hk2.from _, hb2, ⟨_, hv2, by rw [cv_snoc, List.length_append]; exact hr2, trivial⟩, hB.trans hb2⟩
  case done =>
    rintro D ys W hD rfl ⟨⟨v, hv, hrow, _⟩, hB⟩ hK
    have hc := hv.cell
    gi_wp2
    refine ⟨by simp, .inl ⟨_, _, rfl, run_takeDeferred hK, ?_⟩⟩
    exact ⟨_, results_tmp2 rfl _ _ _, v, rfl, Joins.ownsRow_le (ownsRow_putObj hrow _ hK rfl) hb0.size, (hb0.trans (hB.mono hb0.size)).trans (belowK_b (w := w) (Nat.le_refl _) W D _ _ (by have := hb0.size; simp at hD; omega) hK rfl rfl)⟩
  case stop =>
    rintro D c pre W _ _ h _
    exact h.elim
end Go.Proofs.Yteggadafcedojaa
