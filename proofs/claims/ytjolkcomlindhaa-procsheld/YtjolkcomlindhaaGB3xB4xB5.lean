/- Slices as lists; the document's Same of two alike; the keys of a map, sorted. -/
import Derived.Test.YtjolkcomlindhaaGB1xB2
import Derived.Test.YtjolkcomlindhaaShelf
import Derived.RangeFuncNested
import Derived.RangeFuncBound
import Derived.RangeFuncCalls
import Derived.RangeFuncLeaves
import Derived.Shelf.Abstract
import Derived.Shelf.RegionOpen
import Derived.OwnWalkIn
import Derived.TacticsInMore
import Derived.LoopNIn
import Derived.LoopIn
import Derived.Maps.AppendAt
import Derived.Lib.SmallJoins
import Derived.Maps.OwnIn
namespace Go.Proofs
open Go.RowKit Go.Maps Go.Sort Go.Shelf
/-- slices.Sort's two contracts at this dump. -/
theorem Try.sortsA (m : Nat) : AnyZI.SortsIn Try.prog Try.sortedA_ren Fence.wide m :=
  ⟨fun blk off cap ss W hH hblk hsz => callsIn_wide.2 (AnyM.slices_Sort_int Try.sortA blk off cap ss W hH hblk hsz),
   fun p cap W => callsIn_wide.2 (AnyM.slices_Sort_int_none Try.sortA p cap W)⟩
end Go.Proofs
namespace Go.Proofs.Ytjolkcomlindhaa
open Go.RowKit Go.Shelf Go.Maps Go.Sort

theorem info3 : (Try.prog.info? 3).map (fun i => (i.zero, i.size, i.bytes)) = some (some (.int .i64 0), 1, 8) := by kernel_rfl
/-- Numbers as values. -/
def iv (l : List Int) : List Value := l.map fun x => Value.int .i64 x
theorem iv_snoc (l : List Int) (x : Int) : iv (l ++ [x]) = iv l ++ [Value.int .i64 x] := by simp [iv]
theorem iv_len (l : List Int) : (iv l).length = l.length := by simp [iv]
theorem ints_iv {w : World} {base n cap : Nat} {xs : List Int} {A : Option Addr} (hn : xs.length = n) (h : w.ownsRow base 3 1 (.slice A n cap) n (iv xs)) : IntsAt w A xs := by
  rcases h.2 with ⟨h0, h1⟩ | ⟨g', cap', cur, h1, h2, h3, h4, h5, h6, h7⟩
  · subst h1; exact .inl (List.length_eq_zero_iff.1 hn)
  · cases h1
    refine .inr ⟨_, rfl, (Array.getElem?_eq_some_iff.1 h3).1, fun j hj => ?_⟩
    have hadd : (⟨g', 0, none⟩ : Addr).add j = ⟨g', j, none⟩ := by unfold Addr.add; split <;> simp_all
    rw [hadd, cell_of_row w g' j cur 3 (0, 0) h3]
    have e1 : cur[j]? = (iv xs)[j]? := by
      rw [← h7, List.getElem?_take, if_pos (by omega)]; simp
    rw [e1]
    simp [iv, List.getD, hj]
theorem own_form {w : World} {base size n : Nat} {e : TypeId} {v : Value} {xs : List Value} (h : w.ownsRow base e size v n xs) : ∃ A cap, v = .slice A n cap := by
  rcases Joins.ownsRow_forms h with ⟨rfl, rfl⟩ | ⟨g, cap, rfl⟩
  · exact ⟨none, 0, rfl⟩
  · exact ⟨_, cap, rfl⟩
theorem own_next {w w' : World} {base size n : Nat} {e : TypeId} {v : Value} {xs : List Value} (h : w.ownsRow base e size v n xs) (hb : Below w.heap.size w w') : w'.ownsRow base e size v n xs := by
  refine ⟨h.1, ?_⟩
  rcases h.2 with h0 | ⟨g, cap, cur, h1, h2, h3, h4⟩
  · exact .inl h0
  · exact .inr ⟨g, cap, cur, h1, h2, (hb.block g (Array.getElem?_eq_some_iff.1 h3).1).trans h3, h4⟩
/-- Behind an append onto a slice of its own: what lies below is as it was. -/
theorem appended_below {W w1 : World} {n₀ : Nat} {e : TypeId} {size : Nat} {v : Value} {k : Nat} {xs : List Value} {tmp : Obj} (hrow : W.ownsRow n₀ e size v k xs) (hn₀ : n₀ ≤ W.heap.size) (hgrow : (W.alloc tmp).grownBy w1 v.ownBlock) : Below n₀ W w1 := by
  refine ((Below.refl n₀ W).alloc hn₀ tmp).grown hgrow (by simp; omega) fun j ej => ?_
  rcases hrow.2 with ⟨rfl, _⟩ | ⟨g, cap, cur, rfl, hb, _, _⟩
  · simp [Value.ownBlock] at ej
  · obtain rfl : g = j := by simpa [Value.ownBlock] using ej
    exact hb


theorem below_drewN' {B : Nat} {a w : World} (h : Below B a w) (n : Nat) : Below B a (w.drewN n) := ⟨h.os, h.tape, h.output, h.size, h.block⟩
set_option maxRecDepth 100000 in
set_option maxHeartbeats 400000 in
theorem same_eq (A A' : Option Addr) (ca cb n : Nat) (zs : List Int) (w : World) (hA : IntsAt w A zs) (hB : IntsAt w A' zs) (hn : zs.length = n) (hl : n ≤ maxLen) :
    Calls Try.prog 29 #[.slice A n ca, .slice A' n cb] w fun e w' => e = .returned (.bool true) ∧ Below w.heap.size w w' := by
  have HN := Lib.hid hn
  clear hn
  unfold maxLen at hl
  go_enter Try.func29, Try.ntmps29
  go_wp2_with fail
  go_loopw [5] (fun i wr => ∃ k : Nat, k ≤ n ∧ i = .int .i64 k ∧ Below w.heap.size w wr)
    (fun i _ => n - (intOf i).toNat)
  case atStart => exact ⟨0, Nat.zero_le _, rfl, Below.refl _ _⟩
  case round =>
    obtain ⟨k, hk, rfl, hb⟩ := hrel
    by_cases hlt : k < n
    · obtain ⟨ad, rfl, h1, h2⟩ := (hA.next hb).at_ (k := k) (by rw [HN.out]; exact hlt)
      obtain ⟨ad', rfl, h3, h4⟩ := (hB.next hb).at_ (k := k) (by rw [HN.out]; exact hlt)
      generalize zs.getD k 0 = z at *
      have i0 : (0 : Int) ≤ (k : Int) := by omega
      have i1 : (k : Int) < (n : Int) := by omega
      go_wp2_with fail
      go_quiet (fail)
      go_wp2_with fail
      go_roundw
      case rel => exact ⟨k + 1, by omega, by go_num, below_drewN' hb _⟩
      case measure => simp [intOf]; omega
    · obtain rfl : k = n := by omega
      go_wp2_with fail
      go_ret
      exact ⟨rfl, hb⟩

theorem size_keys {D : DataW Unit} (h : IsMap D) : Maps.size D = (intKeys D).length := by
  obtain ⟨es, rfl⟩ := h
  simp [Maps.size, intKeys]
/-- A map's keys, as a rising list. -/
theorem keys_perm {α : Type} {rd : α → DataW Unit} {w : World} {b k : Nat} {D : DataW Unit} {R : Value → Option (DataW Unit × List MemPlace)} {g : Int → Option α} (hown : w.ownsMap Try.prog 3 R b k D) (hs : Says D rd g) (L : List Int) (hL : L.Pairwise (· < ·)) (hin : ∀ n, n ∈ L ↔ (g n).isSome = true) : L.Perm (intKeys D) := by
  have hnd : L.Nodup := hL.imp (fun hlt => by omega)
  obtain ⟨es, hD, hpw, _⟩ := hown.entries law3
  obtain ⟨es', hD', hko⟩ := hown.keysOf
  obtain rfl : es = es' := by rw [hD] at hD'; simpa using hD'
  subst hD
  exact perm_intKeys hpw (fun p hp => by obtain ⟨v, hv⟩ := hko p hp; obtain ⟨x, _, hx, _⟩ := Maps.keyOf_i64 Try.underlying3 hv; exact ⟨x, hx⟩) hnd (fun x => by rw [hin, ← hs.has])
theorem sort_perm {L ss : List Int} (hL : L.Pairwise (· < ·)) (h : ss.Perm L) : ss.mergeSort (fun x y => decide (x ≤ y)) = L := by
  have e1 : ss.mergeSort leI = L.mergeSort leI := mergeSort_of_perm_i h
  have e2 : L.mergeSort leI = L := List.mergeSort_of_pairwise (hL.imp (fun hlt => by simp only [leI, decide_eq_true_eq]; omega))
  exact e1.trans e2
/-- What slices.Sorted(maps.Keys(m)) gives: the keys, rising, in memory of their own. -/
def Keys (w : World) (L : List Int) (e : Ending) (w' : World) : Prop := ∃ v, e = .returned v ∧ w'.ownsRow w.heap.size 3 1 v L.length (iv L) ∧ Below w.heap.size w w'
theorem keysA_in (n : Nat) (mb : Option Nat) (W : World) : CallsIn Fence.wide n Try.prog 61 #[.map mb] W fun e w' => e = .returned (.func (.func 70) #[] #[.pointer (some ⟨W.heap.size, 0, none⟩)]) ∧ w' = W.alloc (.cells #[.map mb] 76) := AnyZI.keys_in Try.keysA Fence.wide n trivial rfl mb W
theorem keysB_in (n : Nat) (mb : Option Nat) (W : World) : CallsIn Fence.wide n Try.prog 55 #[.map mb] W fun e w' => e = .returned (.func (.func 66) #[] #[.pointer (some ⟨W.heap.size, 0, none⟩)]) ∧ w' = W.alloc (.cells #[.map mb] 83) := AnyZI.keys_in Try.keysB Fence.wide n trivial rfl mb W
section
variable {α : Type} {rd : α → DataW Unit} {w : World} {b k : Nat} {D : DataW Unit} {R : Value → Option (DataW Unit × List MemPlace)} {g : Int → Option α}
theorem sortedOf (fid : Nat) (hen : ∀ args w, (callFunc fid args).run Try.prog w = .ok (.enter fid args) w) (n : Nat) (hn : 5 ≤ n) (V : World) (lb : Array Value) (L : List Int) (hL : L.Pairwise (· < ·)) (_ : L.length ≤ 1000000) (S : List Int → Prop) (hS : ∀ ss, S ss → ss.Perm L) (N : Nat) (hN : N ≤ 1000000)
    (hseq : SeqGives Fence.wide (n - 1 - 1 - 1) Try.prog fid lb encZ S N V) : CallsIn Fence.wide n Try.prog 54 #[.func (.func fid) #[] lb] V (Keys V L) := by
  have cS := AnyZI.sorted_in Try.sortedA Fence.wide n trivial trivial trivial trivial rfl (by omega) (Try.sortsA _) (enters_of Try.func65 (by kernel_rfl) rfl) fid lb trivial hen S N (by unfold maxLen; omega) (by omega) _ hseq
  refine cS.mono ?_
  rintro e w' ⟨v, ss, rfl, hS', hrow, hnil, hb⟩
  have hp := hS ss hS'
  have hrow' : w'.ownsRow V.heap.size 3 1 v ss.length ((ss.mergeSort (fun x y => decide (x ≤ y))).map encZ) := hrow
  rw [sort_perm hL hp, hp.length_eq] at hrow'
  exact ⟨v, rfl, hrow', hb⟩
end
end Go.Proofs.Ytjolkcomlindhaa
/- A book: its jobs, rising, as an iterator. -/
namespace Go.Proofs.Ytjolkcomlindhaa
open Go.RowKit Go.Shelf Go.Maps Go.Sort

attribute [local go_sem] Oper.semAt_some

theorem OkL.keys {L : List (Int × Int)} (h : OkL L) : (L.map (·.1)).Pairwise (· < ·) := List.pairwise_map.2 h.up
theorem book_keys {w : World} {p k : Nat} {m : Option Nat} {L : List (Int × Int)} (h : BookAt w p m k L) (hl : L.length ≤ 1000) (n : Nat) (hn : 5 ≤ n) :
    CallsIn Fence.wide n Try.prog 54 #[.func (.func 70) #[] #[.pointer (some ⟨w.heap.size, 0, none⟩)]] (w.alloc (.cells #[.map m] 76)) (Keys (w.alloc (.cells #[.map m] 76)) (L.map (·.1))) := by
  cases m with
  | none =>
    have e := h.none_ rfl
    subst e
    exact sortedOf 70 (enters_of Try.func70 (by kernel_rfl) rfl) n hn _ _ [] List.Pairwise.nil (by simp) (fun ss => ss = []) (fun ss e => by rw [e]) 0 (by omega)
      (AnyZI.keys_gives_nil (ρ := Try.keysA_ren) { Try.keysA with } Fence.wide _ trivial rfl w.heap.size (w.alloc (.cells #[.map none] 76)) (by simp) (by simp))
  | some b =>
    obtain ⟨D, h1, h2⟩ := h.own b rfl
    have hp : (L.map (·.1)).Perm (intKeys D) := keys_perm h1 h2 _ h.ok.keys (fun x => (look_some_iff h.ok x).symm)
    have hsz : Maps.size D = L.length := by rw [size_keys h2.map, ← hp.length_eq, List.length_map]
    exact sortedOf 70 (enters_of Try.func70 (by kernel_rfl) rfl) n hn _ _ (L.map (·.1)) h.ok.keys (by rw [List.length_map]; omega) (fun ss => ss.Perm (intKeys D)) (fun ss e => e.trans hp.symm) (Maps.size D) (by rw [hsz]; omega)
      (AnyZI.keys_gives (ρ := Try.keysA_ren) { Try.keysA with } Fence.wide _ trivial rfl (by omega) w.heap.size b k D (w.alloc (.cells #[.map (some b)] 76)) (by simp) (by simp) (h1.alloc _))

/-- Variable v holds a slice in block i. -/
def Pt (W : World) (v i : Nat) : Prop := ∃ (a : Addr) (n c : Nat), W.cell? ⟨v, 0, none⟩ = some (.slice (some a) n c) ∧ a.block = i
/-- What a round that goes on keeps: all that lies below, and all cells, but variable v and the slice that it holds; which is the same one, or a new one. -/
structure Kv (v n₀ : Nat) (W W' : World) : Prop where
  size : W.heap.size ≤ W'.heap.size
  block : ∀ i, i < W.heap.size → i ≠ v → ¬Pt W v i → (i < n₀ ∨ ∃ o, W.heap[i]? = some o ∧ o.isCells = true) → W'.heap[i]? = W.heap[i]?
  pt : ∀ i, Pt W' v i → Pt W v i ∨ W.heap.size ≤ i
theorem Kv.refl (v n₀ : Nat) (W : World) : Kv v n₀ W W := ⟨Nat.le_refl _, fun _ _ _ _ _ => rfl, fun _ h => .inl h⟩
theorem Kv.trans {v n₀ : Nat} {A B C : World} (h : Kv v n₀ A B) (k : Kv v n₀ B C) : Kv v n₀ A C := by
  refine ⟨Nat.le_trans h.size k.size, fun i hi hv hp hc => ?_, fun i hi => ?_⟩
  · have e := h.block i hi hv hp hc
    refine (k.block i (Nat.lt_of_lt_of_le hi h.size) hv (fun q => ?_) ?_).trans e
    · rcases h.pt i q with q | q
      · exact hp q
      · omega
    · rcases hc with hc | ⟨o, h1, h2⟩
      · exact .inl hc
      · exact .inr ⟨o, e.trans h1, h2⟩
  · rcases k.pt i hi with q | q
    · exact h.pt i q
    · have := h.size
      exact .inr (by omega)
theorem Kv.obj {v n₀ : Nat} {w : World} (hn : n₀ ≤ w.heap.size) (hv : v < w.heap.size) (W : World) (l : Nat) (o o' : Obj) (hl : w.heap.size ≤ l) (h : W.heap[l]? = some o) (h1 : o.isCells = false) (_ : o.isWalk = false) : Kv v n₀ W (W.putObj l o') := by
  refine ⟨(grownBy_putObj' W l o').size, fun i hi hv' hp hc => ?_, fun i hi => .inl ?_⟩
  · refine World.putObj_heap_other ?_
    rintro rfl
    rcases hc with hc | ⟨o2, h2, h3⟩
    · omega
    · rw [h] at h2; cases h2; rw [h1] at h3; cases h3
  · obtain ⟨a, n, c, e1, e2⟩ := hi
    refine ⟨a, n, c, ?_, e2⟩
    rw [← e1]
    have e : (W.putObj l o').heap[v]? = W.heap[v]? := World.putObj_heap_other (by omega)
    simp only [World.cell?, e]

theorem BookAt.kv {W W' : World} {p k v n₀ : Nat} {m : Option Nat} {L : List (Int × Int)} (h : BookAt W p m k L) (hk : Kv v n₀ W W') (hp : p ≠ v) (hpn : p < n₀) (hpp : ¬Pt W v p) (hm : ∀ b, m = some b → b ≠ v ∧ b < n₀ ∧ ¬Pt W v b) : BookAt W' p m k L :=
  ⟨(hk.block p h.blk.lt hp hpp (.inl hpn)).trans h.blk, h.none_, fun b e => by
    obtain ⟨D, ⟨es, cl, h1, h2, h3, h4⟩, hs⟩ := h.own b e
    obtain ⟨m1, m2, m3⟩ := hm b e
    exact ⟨D, ⟨es, cl, (hk.block b (h.lt e) m1 m3 (.inl m2)).trans h1, h2, h3, h4⟩, hs⟩, h.ok⟩
theorem BookAt.under {W W' : World} {p k B : Nat} {m : Option Nat} {L : List (Int × Int)} (h : BookAt W p m k L) (hb : Below B W W') (hp : p < B) (hm : ∀ b, m = some b → b < B) : BookAt W' p m k L :=
  ⟨h.blk.below hb hp, h.none_, fun b e => by
    obtain ⟨D, ⟨es, cl, h1, h2⟩, hs⟩ := h.own b e
    exact ⟨D, ⟨es, cl, (hb.block b (hm b e)).trans h1, h2⟩, hs⟩, h.ok⟩
/-- A job and its number, that may be. -/
abbrev Gp := { x : Int × Int // Good x }
abbrev encP (x : Gp) : Array Value := #[.int .i64 x.1.1, .int .i64 x.1.2]
abbrev raw (l : List Gp) : List (Int × Int) := l.map (·.1)
theorem raw_ex {L : List (Int × Int)} (h : ∀ p ∈ L, Good p) : ∃ G : List Gp, raw G = L := ⟨L.attach.map (fun x => ⟨x.1, h x.1 x.2⟩), by simp only [raw, List.map_map]; exact List.attach_map_subtype_val L⟩
set_option maxRecDepth 100000 in
theorem rising_any (a : Option Addr) (w : World) : Calls Try.prog 48 #[.pointer a] w fun x w' => x = .returned (.func (.func 60) #[] #[.pointer (some ⟨w.heap.size, 0, none⟩)]) ∧ w' = w.alloc (.cells #[.pointer a] 34) := by
  go_enter Try.func48, Try.ntmps48
  go_wp2_with fail
  go_ret
  exact ⟨rfl, rfl⟩
/-- What the iterator keeps to between two rounds. -/
structure It (W : World) (v n₀ p k Bn : Nat) (m : Option Nat) (L : List (Int × Int)) (A : Option Addr) : Prop where
  book : BookAt W p m k L
  box : Bk W Bn 34 #[.pointer (some ⟨p, 0, none⟩)]
  ints : IntsAt W A (L.map (·.1))
  cells : ∀ ad, A = some ad → ∃ o, W.heap[ad.block]? = some o ∧ o.isCells = true ∧ ¬Pt W v ad.block ∧ ad.block ≠ v
  far : ∀ i, Pt W v i → n₀ ≤ i
theorem It.kv {W W' : World} {v n₀ p k Bn : Nat} {m : Option Nat} {L : List (Int × Int)} {A : Option Addr} (h : It W v n₀ p k Bn m L A) (hk : Kv v n₀ W W') (hn : n₀ ≤ W.heap.size) (hp : p ≠ v ∧ p < n₀) (hB : Bn ≠ v ∧ Bn < n₀) (hm : ∀ b, m = some b → b ≠ v ∧ b < n₀) : It W' v n₀ p k Bn m L A := by
  have hf : ∀ i, i < n₀ → ¬Pt W v i := fun i hi q => by have := h.far i q; omega
  refine ⟨h.book.kv hk hp.1 hp.2 (hf p hp.2) (fun b e => ⟨(hm b e).1, (hm b e).2, hf b (hm b e).2⟩), (hk.block Bn h.box.lt hB.1 (hf Bn hB.2) (.inl hB.2)).trans h.box, ?_, ?_, ?_⟩
  · rcases h.ints with e | ⟨ad, rfl, h1, h2⟩
    · exact .inl e
    · obtain ⟨o, c1, c2, c3, c4⟩ := h.cells ad rfl
      have e := hk.block ad.block h1 c4 c3 (.inr ⟨o, c1, c2⟩)
      refine .inr ⟨ad, rfl, Nat.lt_of_lt_of_le h1 hk.size, fun j hj => ?_⟩
      rw [← h2 j hj]
      simp only [World.cell?, block_add, e]
  · intro ad ead
    obtain ⟨o, c1, c2, c3, c4⟩ := h.cells ad ead
    have hlt : ad.block < W.heap.size := (Array.getElem?_eq_some_iff.1 c1).1
    have e := hk.block ad.block hlt c4 c3 (.inr ⟨o, c1, c2⟩)
    exact ⟨o, e.trans c1, c2, (fun q => by rcases hk.pt _ q with q | q; exact c3 q; omega), c4⟩
  · intro i q
    rcases hk.pt i q with q | q
    · exact h.far i q
    · omega
set_option maxRecDepth 100000 in
set_option maxHeartbeats 1000000 in
theorem rising_stops (n Bn n₀ p k v : Nat) (hn : 6 ≤ n) (m : Option Nat) (L : List (Int × Int)) (G : List Gp) (hG : raw G = L) (w : World) (h : BookAt w p m k L) (hl : L.length ≤ 1000) (hk : Bk w Bn 34 #[.pointer (some ⟨p, 0, none⟩)])
    (hp : p ≠ v ∧ p < n₀) (hB : Bn ≠ v ∧ Bn < n₀) (hm : ∀ b, m = some b → b ≠ v ∧ b < n₀) (hn₀ : n₀ ≤ w.heap.size) (hv : v < w.heap.size) (hv0 : ∀ i, ¬Pt w v i) :
    SeqStopsK Fence.wide n Try.prog 60 #[.pointer (some ⟨Bn, 0, none⟩)] encP (Kv v n₀) (fun ys => ys = G) (fun pre => ∃ j, j ≤ L.length ∧ pre = G.take j) L.length w := fun l J Jx W hW hJ _ hY h0 => by
  have k0 := hk.next hW
  have b0 := h.next hW
  have hsW := hW.size
  have hvW : ∀ i, ¬Pt W v i := fun i ⟨a, n, c, e1, e2⟩ => hv0 i ⟨a, n, c, by rw [← e1]; simp only [World.cell?, hW.block v hv], e2⟩
  have CK := Lib.hid (keysA_in (n - 1) m W)
  have CS := Lib.hid (book_keys b0 hl (n - 1) (by omega))
  have c0 := k0.cell 0 _ rfl
  have c1 := b0.cell
  have HG := Lib.hid hG
  clear hG
  have HP := Lib.hid hp
  have HB := Lib.hid hB
  have HM := Lib.hid hm
  clear hk h hp hB hm
  refine callsIn_of_wp Try.func60 rfl trivial ?_ rfl
  simp only [Try.ntmps60, List.size_toArray, List.length_cons, List.length_nil, Nat.reduceAdd, Nat.reduceSub, Array.replicate_succ, Array.replicate_zero, List.push_toArray, List.append_toArray, List.nil_append, List.cons_append]
  gi_wp2_with fail
  refine ⟨trivial, (fun _ => by omega), CK.out.mono ?_⟩
  rintro e w' ⟨rfl, rfl⟩
  gi_wp2_with fail
  refine ⟨trivial, (fun _ => by omega), CS.out.mono ?_⟩
  rintro e w2 ⟨vs, rfl, hrow, hb⟩
  obtain ⟨A, cap, rfl⟩ := own_form hrow
  have hW2 : Below W.heap.size W w2 := (below_alloc W _).trans (hb.mono (by simp))
  have hpt2 : ∀ i, ¬Pt w2 v i := fun i ⟨a, n, c, e1, e2⟩ => hvW i ⟨a, n, c, by rw [← e1]; simp only [World.cell?, hW2.block v (by omega)], e2⟩
  have it0 : It w2 v n₀ p k Bn m L A := by
    refine ⟨b0.next hW2, k0.next hW2, ints_iv rfl hrow, ?_, fun i q => absurd q (hpt2 i)⟩
    rintro ad rfl
    rcases hrow.2 with ⟨e, _⟩ | ⟨g', cap', cur, e1, e2, e3, _⟩
    · cases e
    · cases e1
      refine ⟨_, e3, rfl, hpt2 _, ?_⟩
      have : W.heap.size + 1 ≤ g' := by simpa using e2
      show g' ≠ v
      omega
  have hJ2 := hJ [] W w2 none h0 (only_of_below hW2) (fun r hr => by cases hr)
  have hs2 : n₀ ≤ w2.heap.size := by have := hW2.size; omega
  rw [List.length_map]
  obtain ⟨N, hN⟩ : ∃ N, N = L.length := ⟨_, rfl⟩
  rw [← hN] at hl hY ⊢
  have HN := Lib.hid hN
  clear hN hrow hb hpt2 hvW CK CS c0 c1 k0 b0 hJ h0 hW2
  gi_wp2_with fail
  gi_loopw [14] (fun i wr => ∃ j : Nat, j ≤ N ∧ i = .int .i64 j ∧ J (G.take j) wr ∧ It wr v n₀ p k Bn m L A ∧ n₀ ≤ wr.heap.size)
    (fun i _ => N - (intOf i).toNat)
  case atStart => exact ⟨0, Nat.zero_le _, rfl, hJ2, it0, hs2⟩
  case round =>
    obtain ⟨j, hj, rfl, hJs, it, hsr⟩ := hrel
    by_cases hlt : j < N
    · have hjL : j < L.length := by rw [← HN.out]; exact hlt
      have hjG : j < G.length := by rw [← HG.out, List.length_map] at hjL; exact hjL
      obtain ⟨x, hxg⟩ : ∃ x, G[j]? = some x := ⟨G[j], List.getElem?_eq_getElem hjG⟩
      have hx : L[j]? = some x.1 := by rw [← HG.out, List.getElem?_map, hxg]; rfl
      have hmem : x.1 ∈ L := List.mem_of_getElem? hx
      have HT := Lib.hid (show G.take (j + 1) = G.take j ++ [x] from by rw [List.take_add_one, hxg]; rfl)
      obtain ⟨ad, rfl, hbl, hc⟩ := it.ints.at_ (k := j) (by rw [List.length_map]; exact hjL)
      have hgd : (L.map (·.1)).getD j 0 = x.1.1 := by simp [List.getD, hx]
      rw [hgd] at hc
      have hlk := it.book.look (n := x.1.1) (wf_iff.2 (by have := x.2.1; omega))
      rw [show jobS L x.1.1 = x.1.2 from by unfold jobS; rw [look_of_mem it.book.ok hmem]; rfl] at hlk
      obtain ⟨fn, tmps, assign, body, hy, hR⟩ := hY _ x wr hJs (by rw [List.length_take]; omega)
      obtain ⟨⟨xa, xb⟩, gx⟩ := x
      have c0 := it.box.cell 0 _ rfl
      have c1 := it.book.cell
      clear hgd hmem hx hxg hjL hjG
      have i0 : (0 : Int) ≤ (j : Int) := by omega
      have i1 : (j : Int) < (N : Int) := by omega
      gi_wp2
      refine ⟨(fun _ => by omega), hR.mono ?_⟩
      rintro e W3 (⟨rfl, hJ3, hk3⟩ | ⟨rfl, hJx3⟩)
      · rw [← HT.out] at hJ3
        have it3 := it.kv hk3 hsr HP.out HB.out HM.out
        have hs3 := hk3.size
        clear c0 c1 hlk hc
        gi_wp2
        go_roundw
        case rel => exact ⟨j + 1, by omega, by go_num, hJ3, it3, by omega⟩
        case measure => simp [intOf]; omega
      · rw [← HT.out] at hJx3
        clear c0 c1 hlk hc
        gi_wp2
        refine bodyPost_ret (results_none rfl _ _ _) rfl ?_
        exact ⟨⟨_, rfl⟩, .inr ⟨_, ⟨j + 1, by rw [← HN.out]; omega, rfl⟩, hJx3⟩⟩
    · obtain rfl : j = N := by omega
      gi_wp2
      go_end0
      exact ⟨⟨_, rfl⟩, .inl ⟨_, List.take_of_length_le (by have := congrArg List.length HG.out; rw [List.length_map, ← HN.out] at this; omega), hJs⟩⟩
/-- A book that is none tells nothing. -/
theorem rising_nil (n Bn n₀ v : Nat) (_ : 1 ≤ n) (w : World) (hk : Bk w Bn 34 #[.pointer none]) :
    SeqStopsK Fence.wide n Try.prog 60 #[.pointer (some ⟨Bn, 0, none⟩)] encP (Kv v n₀) (fun ys => ys = []) (fun _ => False) 0 w := fun l J Jx W hW hJ _ hY h0 => by
  have c0 := (hk.next hW).cell 0 _ rfl
  refine callsIn_of_wp Try.func60 rfl trivial ?_ rfl
  simp only [Try.ntmps60, List.size_toArray, List.length_cons, List.length_nil, Nat.reduceAdd, Nat.reduceSub, Array.replicate_succ, Array.replicate_zero, List.push_toArray, List.append_toArray, List.nil_append, List.cons_append]
  gi_wp2_with fail
  refine bodyPost_ret (results_none rfl _ _ _) rfl ?_
  exact ⟨⟨_, rfl⟩, .inl ⟨_, rfl, h0⟩⟩
end Go.Proofs.Ytjolkcomlindhaa
/- A book: All, Jobs. -/
namespace Go.Proofs.Ytjolkcomlindhaa
open Go.RowKit Go.Shelf Go.Maps Go.Sort

attribute [local go_sem] Oper.semAt_some

def allG (l : List Gp) : Int := allS (raw l)
theorem allG_snoc (l : List Gp) (x : Gp) : allG (l ++ [x]) = addE (allG l) x.1.2 := by simp [allG, allS, raw]
theorem allG_wf (l : List Gp) : 0 ≤ allG l ∧ allG l ≤ 9223372036854775807 := by
  unfold allG allS
  have hs : ∀ p ∈ raw l, Good p := fun p hp => by
    obtain ⟨g, _, rfl⟩ := List.mem_map.1 hp
    exact g.2
  have := sumV_nonneg hs
  rw [fold_sum hs 0 (by omega)]
  omega
theorem Bk.ownFrom {β : Type} {B b : Nat} {t : TypeId} (f : β → Array Value) (h : b < B) : OwnFrom B (fun (s : β) W => Bk W b t (f s)) := fun _ _ _ _ hs hg hr =>
  (hg.block b hs.lt (fun e => by have := (hr b e.symm).1; omega)).trans hs
theorem kv_setInt {W : World} {v n₀ : Nat} {t : TypeId} {x y : Int} (h : Bk W v t #[.int .i64 x]) : Kv v n₀ W (W.setCell ⟨v, 0, none⟩ (.int .i64 y)) := by
  have hg := grownBy_setCell' W v (.int .i64 y)
  refine ⟨hg.size, fun i hi hv _ _ => hg.block i hi (fun e => hv (by cases e; rfl)), fun i hi => ?_⟩
  obtain ⟨a, n, c, e1, _⟩ := hi
  rw [(h.set 0 (.int .i64 y)).cell 0 (.int .i64 y) rfl] at e1
  cases e1
set_option maxRecDepth 100000 in
set_option maxHeartbeats 2000000 in
theorem all_walk (w : World) (a : Option Addr) (G : List Gp) (N : Nat) (Sp : List Gp → Prop)
    (hseq : SeqStopsK Fence.wide 8 Try.prog 60 #[.pointer (some ⟨w.heap.size + 1, 0, none⟩)] encP (Kv w.heap.size (w.heap.size + 2)) (fun ys => ys = G) Sp N ((w.alloc (.cells #[.int .i64 0] 3)).alloc (.cells #[.pointer a] 34))) :
    Calls Try.prog 27 #[.pointer a] w fun e w' => e = .returned (.int .i64 (allG G)) ∧ Below w.heap.size w w' := by
  have kv := (Bk.new w 3 #[.int .i64 0]).alloc (.cells #[.pointer a] 34)
  have hb0 : Below w.heap.size w ((w.alloc (.cells #[.int .i64 0] 3)).alloc (.cells #[.pointer a] 34)) := (below_alloc w _).alloc (by simp) _
  have hsz : ((w.alloc (.cells #[.int .i64 0] 3)).alloc (.cells #[.pointer a] 34)).heap.size = w.heap.size + 2 := by simp
  refine (callsIn_wide (n := 9)).1 ?_
  refine callsIn_of_wp_marks Try.func27 rfl trivial ?_ rfl
  simp only [Try.ntmps27, List.size_toArray, List.length_cons, List.length_nil, Nat.reduceAdd, Nat.reduceSub, Array.replicate_succ, Array.replicate_zero, List.push_toArray, List.append_toArray, List.nil_append, List.cons_append]
  gi_wp2_with fail
  refine ⟨trivial, (callsIn_wide.2 (rising_any _ _)).mono ?_⟩
  rintro x w1 ⟨rfl, rfl⟩
  rw [size_alloc]
  gi_wp2_with fail
  generalize (w.alloc (.cells #[.int .i64 0] 3)).alloc (.cells #[.pointer a] 34) = W1 at *
  have hv1 : w.heap.size < W1.heap.size := by omega
  refine wpIn_rangeFunc_ownG rfl (by omega) (gf := 60) (lb := #[.pointer (some ⟨w.heap.size + 1, 0, none⟩)]) rfl trivial (enters_of Try.func60 (by kernel_rfl) rfl)
    hseq Kv.trans (Kv.obj (by omega) hv1) (Below.refl _ _) (fun _ => rfl)
    (fun pre W => Bk W w.heap.size 3 #[.int .i64 (allG pre)] ∧ Below w.heap.size w W)
    (fun _ _ _ => False)
    (fun s W W' row hs hg hr => ⟨Bk.ownFrom (fun pre : List Gp => #[.int .i64 (allG pre)]) hv1 s W W' row hs.1 hg hr, ownFrom_below (Nat.le_refl _) (by omega) s W W' row hs.2 hg hr⟩)
    (fun cc s W W' row hs hg hr => hs)
    ⟨kv, hb0⟩
    ?a1 ?assign ?body ?done ?stop
  case assign =>
    intro l x W K hK
    gi_wp2
    exact hK
  case body =>
    rintro l pre x W ⟨hb, hB⟩ hlt
    have c0 := hb.cell 0 _ rfl
    have f0 := hb.frozen 0
    have A := Lib.hid (add_any (allG pre) x.1.2 (wf_of (allG_wf pre)) (wf_of x.2.2))
    gi_wp2_with fail
    refine ⟨trivial, (CallsIn.inRound l (callsIn_wide.2 (A.out _))).mono ?_⟩
    rintro e W2 ⟨rfl, rfl⟩
    gi_wp2
    refine ⟨KeepsFrom.of_grownBy (grownBy_setCell' _ _ _) (by rintro j ⟨⟩; exact hv1), kv_setInt hb, ?_, hB.setCell (Nat.le_refl _) _⟩
    rw [allG_snoc]
    exact hb.set 0 _
  case done =>
    rintro D ys W hD rfl ⟨hb, hB⟩ hK
    have c0 := hb.cell 0 _ rfl
    gi_wp2
    refine ⟨by simp, .inl ⟨_, _, rfl, run_takeDeferred hK, ?_⟩⟩
    exact ⟨_, results_tmp rfl _ _ _, rfl, hB.trans (belowK_b (w := w) (Nat.le_refl _) W D _ _ (by omega) hK rfl rfl)⟩
  case stop =>
    rintro D cc pre W hD _ hf hK
    exact hf.elim
/-- The jobs. -/
def keysG (l : List Gp) : List Int := (raw l).map (·.1)
theorem keysG_snoc (l : List Gp) (x : Gp) : keysG (l ++ [x]) = keysG l ++ [x.1.1] := by simp [keysG, raw]
theorem keysG_len (l : List Gp) : (keysG l).length = l.length := by simp [keysG, raw]
theorem ownBlock_pt {W : World} {v i : Nat} {t : TypeId} {vv : Value} {n : Nat} {base size : Nat} {e : TypeId} {xs : List Value} (hb : Boxed W v t vv) (hrow : W.ownsRow base e size vv n xs) (h : vv.ownBlock = some i) : Pt W v i := by
  obtain ⟨A, cap, rfl⟩ := own_form hrow
  cases A with
  | none => simp [Value.ownBlock] at h
  | some a => exact ⟨a, n, cap, hb.cell, by simpa [Value.ownBlock] using h⟩
theorem kv_append {W w1 : World} {v n₀ base n : Nat} {t : TypeId} {vv v' : Value} {xs : List Value} {tmp : Obj} (hb : Boxed W v t vv) (hb1 : Boxed w1 v t vv) (hrow : W.ownsRow base 3 1 vv n xs) (hgrow : (W.alloc tmp).grownBy w1 vv.ownBlock) (hat : v'.ownBlock = vv.ownBlock ∨ v'.ownBlock = some (W.alloc tmp).heap.size) : Kv v n₀ W (w1.setCell ⟨v, 0, none⟩ v') := by
  have hg := grownBy_setCell' w1 v v'
  have hs1 := hgrow.size
  have hs2 := hg.size
  rw [size_alloc] at hs1
  refine ⟨by omega, fun i hi hv hp _ => ?_, fun i hi => ?_⟩
  · refine (hg.block i (by omega) (fun e => hv (by cases e; rfl))).trans ((hgrow.block i (by rw [size_alloc]; omega) (fun e => hp (ownBlock_pt hb hrow e.symm))).trans (Below.heap_alloc W tmp i hi))
  · obtain ⟨a, m, c, e1, e2⟩ := hi
    rw [(hb1.set v').cell] at e1
    cases e1
    have e3 : (Value.slice (some a) m c).ownBlock = some i := by simp [Value.ownBlock, e2]
    rw [e3] at hat
    rcases hat with q | q
    · exact .inl (ownBlock_pt hb hrow q.symm)
    · right
      rw [size_alloc] at q
      cases q
      omega
set_option maxRecDepth 100000 in
set_option maxHeartbeats 2000000 in
theorem jobs_walk (w : World) (a : Option Addr) (G : List Gp) (N : Nat) (hN : N ≤ 1000) (Sp : List Gp → Prop)
    (hseq : SeqStopsK Fence.wide 8 Try.prog 60 #[.pointer (some ⟨w.heap.size + 1, 0, none⟩)] encP (Kv w.heap.size (w.heap.size + 2)) (fun ys => ys = G) Sp N ((w.alloc (.cells #[.slice none 0 0] 45)).alloc (.cells #[.pointer a] 34))) :
    Calls Try.prog 30 #[.pointer a] w (Keys w (keysG G)) := by
  obtain ⟨i0, hi, hz0, hz1, hz2⟩ := info_parts info3
  have kv : Boxed ((w.alloc (.cells #[.slice none 0 0] 45)).alloc (.cells #[.pointer a] 34)) w.heap.size 45 (.slice none 0 0) := (Boxed.new w 45 (.slice none 0 0)).alloc _
  have hb0 : Below w.heap.size w ((w.alloc (.cells #[.slice none 0 0] 45)).alloc (.cells #[.pointer a] 34)) := (below_alloc w _).alloc (by simp) _
  have hsz : ((w.alloc (.cells #[.slice none 0 0] 45)).alloc (.cells #[.pointer a] 34)).heap.size = w.heap.size + 2 := by simp
  refine (callsIn_wide (n := 9)).1 ?_
  refine callsIn_of_wp_marks Try.func30 rfl trivial ?_ rfl
  simp only [Try.ntmps30, List.size_toArray, List.length_cons, List.length_nil, Nat.reduceAdd, Nat.reduceSub, Array.replicate_succ, Array.replicate_zero, List.push_toArray, List.append_toArray, List.nil_append, List.cons_append]
  gi_wp2_with fail
  refine ⟨trivial, (callsIn_wide.2 (rising_any _ _)).mono ?_⟩
  rintro x w1 ⟨rfl, rfl⟩
  rw [size_alloc]
  gi_wp2_with fail
  generalize (w.alloc (.cells #[.slice none 0 0] 45)).alloc (.cells #[.pointer a] 34) = W1 at *
  have hv1 : w.heap.size < W1.heap.size := by omega
  refine wpIn_rangeFunc_ownG rfl (by omega) (gf := 60) (lb := #[.pointer (some ⟨w.heap.size + 1, 0, none⟩)]) rfl trivial (enters_of Try.func60 (by kernel_rfl) rfl)
    hseq Kv.trans (Kv.obj (by omega) hv1) (Below.refl _ _) (fun _ => rfl)
    (fun pre W => (∃ v, Boxed W w.heap.size 45 v ∧ W.ownsRow w.heap.size 3 1 v pre.length (iv (keysG pre)) ∧ True) ∧ Below w.heap.size w W)
    (fun _ _ _ => False)
    (OwnFrom.and (Own.from (holdsRow_own w.heap.size w.heap.size 45 3 1 (fun pre : List Gp => pre.length) (fun pre => iv (keysG pre)) (fun _ _ => True)) _) (ownFrom_below (Nat.le_refl _) (by omega)))
    (fun cc s W W' row hs hg hr => hs)
    ⟨⟨_, kv, World.ownsRow_nil _ _ _ _, trivial⟩, hb0⟩
    ?a1 ?assign ?body ?done ?stop
  case assign =>
    intro l x W K hK
    gi_wp2
    exact hK
  case body =>
    rintro l pre x W ⟨⟨v, hv, hrow, -⟩, hB⟩ hlt
    obtain ⟨A, cap, rfl⟩ := own_form hrow
    have hc := hv.cell
    have hsW := hB.size
    gi_wp2_with (gi_at_builtin; refine wpListIn_append_own_at _ rfl _ _ 45 rfl w.heap.size 3 i0 (.int .i64 0) 1 8 Try.underlying45 hi hz0 hz1 hz2 rfl (by decide) _ _ _ rfl (hrow.alloc _) ⟨W.heap.size, 0, none⟩ 1 1 [.int .i64 x.1.1] rfl rfl (cell_one_new _ _ _) (by simp [Value.oneCell']) (by unfold maxLen; omega) (by omega) (by simp; omega) ?_; intro v' w1 hown' hgrow _ hat; obtain ⟨g', cap', rfl⟩ := ownsRow_succ hown'; obtain ⟨hv3, hv4, hr4, hk4, hb4⟩ := hv.appended (by decide) hrow hB.size (Nat.le_refl _) hown' hgrow; have hkv := kv_append (n₀ := w.heap.size + 2) hv hv3 hrow hgrow hat; have hc3 := hv3.cell; have hf3 := hv3.frozen)
    exact ⟨hk4.from _, hkv, ⟨_, hv4, by rw [keysG_snoc, iv_snoc, List.length_append]; exact hr4, trivial⟩, hB.trans hb4⟩
  case done =>
    rintro D ys W hD rfl ⟨⟨v, hv, hrow, -⟩, hB⟩ hK
    have hc := hv.cell
    gi_wp2
    refine ⟨by simp, .inl ⟨_, _, rfl, run_takeDeferred hK, ?_⟩⟩
    refine ⟨_, results_tmp rfl _ _ _, v, rfl, ?_, hB.trans (belowK_b (w := w) (Nat.le_refl _) W D _ _ (by omega) hK rfl rfl)⟩
    rw [keysG_len]
    exact ownsRow_putObj hrow _ hK rfl
  case stop =>
    rintro D cc pre W hD _ hf hK
    exact hf.elim
section
variable {w : World} {p k : Nat} {m : Option Nat} {L : List (Int × Int)}
theorem rising_at (h : BookAt w p m k L) (hl : L.length ≤ 1000) (G : List Gp) (hG : raw G = L) (t : TypeId) (x : Value) (hx : ∀ a n c, x ≠ .slice (some a) n c) :
    SeqStopsK Fence.wide 8 Try.prog 60 #[.pointer (some ⟨w.heap.size + 1, 0, none⟩)] encP (Kv w.heap.size (w.heap.size + 2)) (fun ys => ys = G) (fun pre => ∃ j, j ≤ L.length ∧ pre = G.take j) L.length ((w.alloc (.cells #[x] t)).alloc (.cells #[.pointer (some ⟨p, 0, none⟩)] 34)) := by
  have hp := h.blk.lt
  have hb0 : Below w.heap.size w ((w.alloc (.cells #[x] t)).alloc (.cells #[.pointer (some ⟨p, 0, none⟩)] 34)) := (below_alloc w _).alloc (by simp) _
  refine rising_stops 8 (w.heap.size + 1) (w.heap.size + 2) p k w.heap.size (by omega) m L G hG _ (h.next hb0) hl ?_ (by omega) (by omega) (fun b e => by have := h.lt e; omega) (by simp) (by simp; omega) ?_
  · have := Bk.new (w.alloc (.cells #[x] t)) 34 #[.pointer (some ⟨p, 0, none⟩)]
    rw [size_alloc] at this
    exact this
  · rintro i ⟨a, n, c, e1, _⟩
    rw [((Bk.new w t #[x]).alloc _).cell 0 x rfl] at e1
    cases e1
    exact hx a n c rfl
theorem all_any (h : BookAt w p m k L) (hl : L.length ≤ 1000) : Calls Try.prog 27 #[.pointer (some ⟨p, 0, none⟩)] w fun e w' => e = .returned (.int .i64 (allS L)) ∧ Below w.heap.size w w' := by
  obtain ⟨G, hG⟩ := raw_ex h.ok.good
  have := all_walk w _ G _ _ (rising_at h hl G hG 3 (.int .i64 0) (fun _ _ _ e => by cases e))
  unfold allG at this
  rw [hG] at this
  exact this
theorem jobs_any (h : BookAt w p m k L) (hl : L.length ≤ 1000) : Calls Try.prog 30 #[.pointer (some ⟨p, 0, none⟩)] w (Keys w (L.map (·.1))) := by
  obtain ⟨G, hG⟩ := raw_ex h.ok.good
  have := jobs_walk w _ G _ hl _ (rising_at h hl G hG 45 (.slice none 0 0) (fun _ _ _ e => by cases e))
  unfold keysG at this
  rw [hG] at this
  exact this
end
theorem all_nil (w : World) : Calls Try.prog 27 #[.pointer none] w fun e w' => e = .returned (.int .i64 0) ∧ Below w.heap.size w w' := by
  refine all_walk w none [] 0 _ (rising_nil 8 (w.heap.size + 1) (w.heap.size + 2) w.heap.size (by omega) _ ?_)
  have := Bk.new (w.alloc (.cells #[.int .i64 0] 3)) 34 #[.pointer none]
  rw [size_alloc] at this
  exact this
theorem jobs_nil (w : World) : Calls Try.prog 30 #[.pointer none] w (Keys w []) := by
  refine jobs_walk w none [] 0 (by omega) _ (rising_nil 8 (w.heap.size + 1) (w.heap.size + 2) w.heap.size (by omega) _ ?_)
  have := Bk.new (w.alloc (.cells #[.slice none 0 0] 45)) 34 #[.pointer none]
  rw [size_alloc] at this
  exact this
end Go.Proofs.Ytjolkcomlindhaa
