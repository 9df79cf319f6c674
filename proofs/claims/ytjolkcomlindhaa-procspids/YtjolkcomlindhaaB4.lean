/- A book: its jobs, rising, as an iterator. -/
import Derived.Test.YtjolkcomlindhaaB3
namespace Go.Proofs.Ytjolkcomlindhaa
open Go.RowKit Go.Shelf Go.Maps Go.Sort

attribute [local go_sem] Oper.semAt_some

theorem OkL.keys {L : List (Int × Int)} (h : OkL L) : (L.map (·.1)).Pairwise (· < ·) := List.pairwise_map.2 h.up
theorem book_keys {w : World} {p k : Nat} {m : Option Nat} {L : List (Int × Int)} (h : BookAt w p m k L) (hl : L.length ≤ 1000) (n : Nat) (hn : 5 ≤ n) :
    CallsIn Fence.wide n Try.prog 54 #[.func (.func 70) #[] #[.pointer (some ⟨w.heap.size, 0, none⟩)]] (w.alloc (.cells #[.map m] 76)) (Keys (w.alloc (.cells #[.map m] 76)) (L.map (·.1))) := by
  cases m with
  | none =>
    have e := h.none_ rfl
    subst e
    exact sortedOf 70 (enters_of Try.func70 (by kernel_rfl) rfl) n hn _ _ [] List.Pairwise.nil (by simp) (fun ss => ss = []) (fun ss e => by rw [e]) 0 (by omega)
      (AnyZI.keys_gives_nil (ρ := Try.keysA_ren) { Try.keysA with } Fence.wide _ trivial rfl w.heap.size (w.alloc (.cells #[.map none] 76)) (by simp) (by simp))
  | some b =>
    obtain ⟨D, h1, h2⟩ := h.own b rfl
    have hp : (L.map (·.1)).Perm (intKeys D) := keys_perm h1 h2 _ h.ok.keys (fun x => (look_some_iff h.ok x).symm)
    have hsz : Maps.size D = L.length := by rw [size_keys h2.map, ← hp.length_eq, List.length_map]
    exact sortedOf 70 (enters_of Try.func70 (by kernel_rfl) rfl) n hn _ _ (L.map (·.1)) h.ok.keys (by rw [List.length_map]; omega) (fun ss => ss.Perm (intKeys D)) (fun ss e => e.trans hp.symm) (Maps.size D) (by rw [hsz]; omega)
      (AnyZI.keys_gives (ρ := Try.keysA_ren) { Try.keysA with } Fence.wide _ trivial rfl (by omega) w.heap.size b k D (w.alloc (.cells #[.map (some b)] 76)) (by simp) (by simp) (h1.alloc _))

/-- Variable v holds a slice in block i. -/
def Pt (W : World) (v i : Nat) : Prop := ∃ (a : Addr) (n c : Nat), W.cell? ⟨v, 0, none⟩ = some (.slice (some a) n c) ∧ a.block = i
/-- What a round that goes on keeps: all that lies below, and all cells, but variable v and the slice that it holds; which is the same one, or a new one. -/
structure Kv (v n₀ : Nat) (W W' : World) : Prop where
  size : W.heap.size ≤ W'.heap.size
  block : ∀ i, i < W.heap.size → i ≠ v → ¬Pt W v i → (i < n₀ ∨ ∃ o, W.heap[i]? = some o ∧ o.isCells = true) → W'.heap[i]? = W.heap[i]?
  pt : ∀ i, Pt W' v i → Pt W v i ∨ W.heap.size ≤ i
theorem Kv.refl (v n₀ : Nat) (W : World) : Kv v n₀ W W := ⟨Nat.le_refl _, fun _ _ _ _ _ => rfl, fun _ h => .inl h⟩
theorem Kv.trans {v n₀ : Nat} {A B C : World} (h : Kv v n₀ A B) (k : Kv v n₀ B C) : Kv v n₀ A C := by
  refine ⟨Nat.le_trans h.size k.size, fun i hi hv hp hc => ?_, fun i hi => ?_⟩
  · have e := h.block i hi hv hp hc
    refine (k.block i (Nat.lt_of_lt_of_le hi h.size) hv (fun q => ?_) ?_).trans e
    · rcases h.pt i q with q | q
      · exact hp q
      · omega
    · rcases hc with hc | ⟨o, h1, h2⟩
      · exact .inl hc
      · exact .inr ⟨o, e.trans h1, h2⟩
  · rcases k.pt i hi with q | q
    · exact h.pt i q
    · have := h.size
      exact .inr (by omega)
theorem Kv.obj {v n₀ : Nat} {w : World} (hn : n₀ ≤ w.heap.size) (hv : v < w.heap.size) (W : World) (l : Nat) (o o' : Obj) (hl : w.heap.size ≤ l) (h : W.heap[l]? = some o) (h1 : o.isCells = false) (_ : o.isWalk = false) : Kv v n₀ W (W.putObj l o') := by
  refine ⟨(grownBy_putObj' W l o').size, fun i hi hv' hp hc => ?_, fun i hi => .inl ?_⟩
  · refine World.putObj_heap_other ?_
    rintro rfl
    rcases hc with hc | ⟨o2, h2, h3⟩
    · omega
    · rw [h] at h2; cases h2; rw [h1] at h3; cases h3
  · obtain ⟨a, n, c, e1, e2⟩ := hi
    refine ⟨a, n, c, ?_, e2⟩
    rw [← e1]
    have e : (W.putObj l o').heap[v]? = W.heap[v]? := World.putObj_heap_other (by omega)
    simp only [World.cell?, e]

theorem BookAt.kv {W W' : World} {p k v n₀ : Nat} {m : Option Nat} {L : List (Int × Int)} (h : BookAt W p m k L) (hk : Kv v n₀ W W') (hp : p ≠ v) (hpn : p < n₀) (hpp : ¬Pt W v p) (hm : ∀ b, m = some b → b ≠ v ∧ b < n₀ ∧ ¬Pt W v b) : BookAt W' p m k L :=
  ⟨(hk.block p h.blk.lt hp hpp (.inl hpn)).trans h.blk, h.none_, fun b e => by
    obtain ⟨D, ⟨es, cl, h1, h2, h3, h4⟩, hs⟩ := h.own b e
    obtain ⟨m1, m2, m3⟩ := hm b e
    exact ⟨D, ⟨es, cl, (hk.block b (h.lt e) m1 m3 (.inl m2)).trans h1, h2, h3, h4⟩, hs⟩, h.ok⟩
theorem BookAt.under {W W' : World} {p k B : Nat} {m : Option Nat} {L : List (Int × Int)} (h : BookAt W p m k L) (hb : Below B W W') (hp : p < B) (hm : ∀ b, m = some b → b < B) : BookAt W' p m k L :=
  ⟨h.blk.below hb hp, h.none_, fun b e => by
    obtain ⟨D, ⟨es, cl, h1, h2⟩, hs⟩ := h.own b e
    exact ⟨D, ⟨es, cl, (hb.block b (hm b e)).trans h1, h2⟩, hs⟩, h.ok⟩
/-- A job and its number, that may be. -/
abbrev Gp := { x : Int × Int // Good x }
abbrev encP (x : Gp) : Array Value := #[.int .i64 x.1.1, .int .i64 x.1.2]
abbrev raw (l : List Gp) : List (Int × Int) := l.map (·.1)
theorem raw_ex {L : List (Int × Int)} (h : ∀ p ∈ L, Good p) : ∃ G : List Gp, raw G = L := ⟨L.attach.map (fun x => ⟨x.1, h x.1 x.2⟩), by simp only [raw, List.map_map]; exact List.attach_map_subtype_val L⟩
set_option maxRecDepth 100000 in
theorem rising_any (a : Option Addr) (w : World) : Calls Try.prog 48 #[.pointer a] w fun x w' => x = .returned (.func (.func 60) #[] #[.pointer (some ⟨w.heap.size, 0, none⟩)]) ∧ w' = w.alloc (.cells #[.pointer a] 34) := by
  go_enter Try.func48, Try.ntmps48
  go_wp2_with fail
  go_ret
  exact ⟨rfl, rfl⟩
/-- What the iterator keeps to between two rounds. -/
structure It (W : World) (v n₀ p k Bn : Nat) (m : Option Nat) (L : List (Int × Int)) (A : Option Addr) : Prop where
  book : BookAt W p m k L
  box : Bk W Bn 34 #[.pointer (some ⟨p, 0, none⟩)]
  ints : IntsAt W A (L.map (·.1))
  cells : ∀ ad, A = some ad → ∃ o, W.heap[ad.block]? = some o ∧ o.isCells = true ∧ ¬Pt W v ad.block ∧ ad.block ≠ v
  far : ∀ i, Pt W v i → n₀ ≤ i
theorem It.kv {W W' : World} {v n₀ p k Bn : Nat} {m : Option Nat} {L : List (Int × Int)} {A : Option Addr} (h : It W v n₀ p k Bn m L A) (hk : Kv v n₀ W W') (hn : n₀ ≤ W.heap.size) (hp : p ≠ v ∧ p < n₀) (hB : Bn ≠ v ∧ Bn < n₀) (hm : ∀ b, m = some b → b ≠ v ∧ b < n₀) : It W' v n₀ p k Bn m L A := by
  have hf : ∀ i, i < n₀ → ¬Pt W v i := fun i hi q => by have := h.far i q; omega
  refine ⟨h.book.kv hk hp.1 hp.2 (hf p hp.2) (fun b e => ⟨(hm b e).1, (hm b e).2, hf b (hm b e).2⟩), (hk.block Bn h.box.lt hB.1 (hf Bn hB.2) (.inl hB.2)).trans h.box, ?_, ?_, ?_⟩
  · rcases h.ints with e | ⟨ad, rfl, h1, h2⟩
    · exact .inl e
    · obtain ⟨o, c1, c2, c3, c4⟩ := h.cells ad rfl
      have e := hk.block ad.block h1 c4 c3 (.inr ⟨o, c1, c2⟩)
      refine .inr ⟨ad, rfl, Nat.lt_of_lt_of_le h1 hk.size, fun j hj => ?_⟩
      rw [← h2 j hj]
      simp only [World.cell?, block_add, e]
  · intro ad ead
    obtain ⟨o, c1, c2, c3, c4⟩ := h.cells ad ead
    have hlt : ad.block < W.heap.size := (Array.getElem?_eq_some_iff.1 c1).1
    have e := hk.block ad.block hlt c4 c3 (.inr ⟨o, c1, c2⟩)
    exact ⟨o, e.trans c1, c2, (fun q => by rcases hk.pt _ q with q | q; exact c3 q; omega), c4⟩
  · intro i q
    rcases hk.pt i q with q | q
    · exact h.far i q
    · omega
set_option maxRecDepth 100000 in
set_option maxHeartbeats 1000000 in
theorem rising_stops (n Bn n₀ p k v : Nat) (hn : 6 ≤ n) (m : Option Nat) (L : List (Int × Int)) (G : List Gp) (hG : raw G = L) (w : World) (h : BookAt w p m k L) (hl : L.length ≤ 1000) (hk : Bk w Bn 34 #[.pointer (some ⟨p, 0, none⟩)])
    (hp : p ≠ v ∧ p < n₀) (hB : Bn ≠ v ∧ Bn < n₀) (hm : ∀ b, m = some b → b ≠ v ∧ b < n₀) (hn₀ : n₀ ≤ w.heap.size) (hv : v < w.heap.size) (hv0 : ∀ i, ¬Pt w v i) :
    SeqStopsK Fence.wide n Try.prog 60 #[.pointer (some ⟨Bn, 0, none⟩)] encP (Kv v n₀) (fun ys => ys = G) (fun pre => ∃ j, j ≤ L.length ∧ pre = G.take j) L.length w := fun l J Jx W hW hJ _ hY h0 => by
  have k0 := hk.next hW
  have b0 := h.next hW
  have hsW := hW.size
  have hvW : ∀ i, ¬Pt W v i := fun i ⟨a, n, c, e1, e2⟩ => hv0 i ⟨a, n, c, by rw [← e1]; simp only [World.cell?, hW.block v hv], e2⟩
  have CK := Lib.hid (keysA_in (n - 1) m W)
  have CS := Lib.hid (book_keys b0 hl (n - 1) (by omega))
  have c0 := k0.cell 0 _ rfl
  have c1 := b0.cell
  have HG := Lib.hid hG
  clear hG
  have HP := Lib.hid hp
  have HB := Lib.hid hB
  have HM := Lib.hid hm
  clear hk h hp hB hm
  refine callsIn_of_wp Try.func60 rfl trivial ?_ rfl
  simp only [Try.ntmps60, List.size_toArray, List.length_cons, List.length_nil, Nat.reduceAdd, Nat.reduceSub, Array.replicate_succ, Array.replicate_zero, List.push_toArray, List.append_toArray, List.nil_append, List.cons_append]
  gi_wp2_with fail
  refine ⟨trivial, (fun _ => by omega), CK.out.mono ?_⟩
  rintro e w' ⟨rfl, rfl⟩
  gi_wp2_with fail
  refine ⟨trivial, (fun _ => by omega), CS.out.mono ?_⟩
  rintro e w2 ⟨vs, rfl, hrow, hb⟩
  obtain ⟨A, cap, rfl⟩ := own_form hrow
  have hW2 : Below W.heap.size W w2 := (below_alloc W _).trans (hb.mono (by simp))
  have hpt2 : ∀ i, ¬Pt w2 v i := fun i ⟨a, n, c, e1, e2⟩ => hvW i ⟨a, n, c, by rw [← e1]; simp only [World.cell?, hW2.block v (by omega)], e2⟩
  have it0 : It w2 v n₀ p k Bn m L A := by
    refine ⟨b0.next hW2, k0.next hW2, ints_iv rfl hrow, ?_, fun i q => absurd q (hpt2 i)⟩
    rintro ad rfl
    rcases hrow.2 with ⟨e, _⟩ | ⟨g', cap', cur, e1, e2, e3, _⟩
    · cases e
    · cases e1
      refine ⟨_, e3, rfl, hpt2 _, ?_⟩
      have : W.heap.size + 1 ≤ g' := by simpa using e2
      show g' ≠ v
      omega
  have hJ2 := hJ [] W w2 none h0 (only_of_below hW2) (fun r hr => by cases hr)
  have hs2 : n₀ ≤ w2.heap.size := by have := hW2.size; omega
  rw [List.length_map]
  obtain ⟨N, hN⟩ : ∃ N, N = L.length := ⟨_, rfl⟩
  rw [← hN] at hl hY ⊢
  have HN := Lib.hid hN
  clear hN hrow hb hpt2 hvW CK CS c0 c1 k0 b0 hJ h0 hW2
  gi_wp2_with fail
  gi_loopw [14] (fun i wr => ∃ j : Nat, j ≤ N ∧ i = .int .i64 j ∧ J (G.take j) wr ∧ It wr v n₀ p k Bn m L A ∧ n₀ ≤ wr.heap.size)
    (fun i _ => N - (intOf i).toNat)
  case atStart => exact ⟨0, Nat.zero_le _, rfl, hJ2, it0, hs2⟩
  case round =>
    obtain ⟨j, hj, rfl, hJs, it, hsr⟩ := hrel
    by_cases hlt : j < N
    · have hjL : j < L.length := by rw [← HN.out]; exact hlt
      have hjG : j < G.length := by rw [← HG.out, List.length_map] at hjL; exact hjL
      obtain ⟨x, hxg⟩ : ∃ x, G[j]? = some x := ⟨G[j], List.getElem?_eq_getElem hjG⟩
      have hx : L[j]? = some x.1 := by rw [← HG.out, List.getElem?_map, hxg]; rfl
      have hmem : x.1 ∈ L := List.mem_of_getElem? hx
      have HT := Lib.hid (show G.take (j + 1) = G.take j ++ [x] from by rw [List.take_add_one, hxg]; rfl)
      obtain ⟨ad, rfl, hbl, hc⟩ := it.ints.at_ (k := j) (by rw [List.length_map]; exact hjL)
      have hgd : (L.map (·.1)).getD j 0 = x.1.1 := by simp [List.getD, hx]
      rw [hgd] at hc
      have hlk := it.book.look (n := x.1.1) (wf_iff.2 (by have := x.2.1; omega))
      rw [show jobS L x.1.1 = x.1.2 from by unfold jobS; rw [look_of_mem it.book.ok hmem]; rfl] at hlk
      obtain ⟨fn, tmps, assign, body, hy, hR⟩ := hY _ x wr hJs (by rw [List.length_take]; omega)
      obtain ⟨⟨xa, xb⟩, gx⟩ := x
      have c0 := it.box.cell 0 _ rfl
      have c1 := it.book.cell
      clear hgd hmem hx hxg hjL hjG
      have i0 : (0 : Int) ≤ (j : Int) := by omega
      have i1 : (j : Int) < (N : Int) := by omega
      gi_wp2
      refine ⟨(fun _ => by omega), hR.mono ?_⟩
      rintro e W3 (⟨rfl, hJ3, hk3⟩ | ⟨rfl, hJx3⟩)
      · rw [← HT.out] at hJ3
        have it3 := it.kv hk3 hsr HP.out HB.out HM.out
        have hs3 := hk3.size
        clear c0 c1 hlk hc
        gi_wp2
        go_roundw
        case rel => exact ⟨j + 1, by omega, by go_num, hJ3, it3, by omega⟩
        case measure => simp [intOf]; omega
      · rw [← HT.out] at hJx3
        clear c0 c1 hlk hc
        gi_wp2
        refine bodyPost_ret (results_none rfl _ _ _) rfl ?_
        exact ⟨⟨_, rfl⟩, .inr ⟨_, ⟨j + 1, by rw [← HN.out]; omega, rfl⟩, hJx3⟩⟩
    · obtain rfl : j = N := by omega
      gi_wp2
      go_end0
      exact ⟨⟨_, rfl⟩, .inl ⟨_, List.take_of_length_le (by have := congrArg List.length HG.out; rw [List.length_map, ← HN.out] at this; omega), hJs⟩⟩
/-- A book that is none tells nothing. -/
theorem rising_nil (n Bn n₀ v : Nat) (_ : 1 ≤ n) (w : World) (hk : Bk w Bn 34 #[.pointer none]) :
    SeqStopsK Fence.wide n Try.prog 60 #[.pointer (some ⟨Bn, 0, none⟩)] encP (Kv v n₀) (fun ys => ys = []) (fun _ => False) 0 w := fun l J Jx W hW hJ _ hY h0 => by
  have c0 := (hk.next hW).cell 0 _ rfl
  refine callsIn_of_wp Try.func60 rfl trivial ?_ rfl
  simp only [Try.ntmps60, List.size_toArray, List.length_cons, List.length_nil, Nat.reduceAdd, Nat.reduceSub, Array.replicate_succ, Array.replicate_zero, List.push_toArray, List.append_toArray, List.nil_append, List.cons_append]
  gi_wp2_with fail
  refine bodyPost_ret (results_none rfl _ _ _) rfl ?_
  exact ⟨⟨_, rfl⟩, .inl ⟨_, rfl, h0⟩⟩
end Go.Proofs.Ytjolkcomlindhaa
