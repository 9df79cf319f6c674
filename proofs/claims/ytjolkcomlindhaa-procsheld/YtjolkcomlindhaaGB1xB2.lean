/- A book in memory; New, Job, Note. -/
import Derived.Test.YtjolkcomlindhaaA3
import Derived.Maps.OwnOps
import Derived.Maps.OwnSet
import Derived.Maps.Views
import Derived.Maps.RangeWalk
import Derived.RangeFuncBox
namespace Go.Proofs.Ytjolkcomlindhaa
open Go.RowKit Go.Maps

theorem law3 : Keyed Try.prog 3 := int_keyed Try.underlying3
theorem zero3 (w : World) : (zeroValue 3).run Try.prog w = .ok (.int .i64 0) w := by kernel_rfl
abbrev ky (n : Int) : Lit := .int .i64 n
theorem key_of {n : Int} (h : wf n) : keyOf Try.prog 3 (.int .i64 n) = some (ky n) := keyOf_int_mk Try.underlying3 h
theorem ky_lit (n : Int) : WideAt.IsKeyLit (ky n) := trivial
theorem ky_ne {n m : Int} (h : n ≠ m) : ky n ≠ ky m := fun e => h (by cases e; rfl)
theorem atKey_out {D : DataW Unit} {k : Lit} (hD : IsMap D) (h : Maps.has D k = false) (z : DataW Unit) : D.atKey k z = z := by
  obtain ⟨es, rfl⟩ := hD
  rw [Maps.has_eq] at h
  have hf : es.find? (fun p => p.1.sameKey k) = Option.none := List.find?_eq_none.2 (fun p hp => by
    have := List.any_eq_false.1 h p hp
    simpa using this)
  simp only [DataW.atKey, hf]
/-- Who has what, as the map's datum says it: whatever is kept, by its reading. -/
structure Says {α : Type} (D : DataW Unit) (rd : α → DataW Unit) (g : Int → Option α) : Prop where
  map : IsMap D
  has : ∀ n, Maps.has D (ky n) = (g n).isSome
  at_ : ∀ n s, g n = some s → ∀ z, D.atKey (ky n) z = rd s
section
variable {α : Type} {rd : α → DataW Unit}
theorem says_none : Says (.map []) rd (fun _ => Option.none) := ⟨⟨_, rfl⟩, fun _ => rfl, fun _ _ h => by cases h⟩
theorem Says.put {D : DataW Unit} {g : Int → Option α} (h : Says D rd g) (n : Int) (s : α) (hM : IsMap (D.put (ky n) (rd s))) : Says (D.put (ky n) (rd s)) rd (fun k => if k = n then some s else g k) := by
  refine ⟨hM, fun k => ?_, fun k s' hk z => ?_⟩
  · by_cases e : k = n
    · subst e
      rw [Maps.has_put_same h.map (ky_lit k), if_pos rfl]
      rfl
    · rw [Maps.has_put_other (ky_ne e), if_neg e, h.has]
  · by_cases e : k = n
    · subst e
      rw [if_pos rfl] at hk
      cases hk
      exact Maps.atKey_put_same h.map (ky_lit k) _ _
    · rw [if_neg e] at hk
      rw [Maps.atKey_put_other (ky_ne e)]
      exact h.at_ k s' hk z
theorem Says.del {D : DataW Unit} {g : Int → Option α} (h : Says D rd g) (n : Int) (hM : IsMap (D.del (ky n))) : Says (D.del (ky n)) rd (fun k => if k = n then Option.none else g k) := by
  refine ⟨hM, fun k => ?_, fun k s' hk z => ?_⟩
  · by_cases e : k = n
    · subst e
      rw [Maps.has_del_same, if_pos rfl]
      rfl
    · rw [Maps.has_del_other (ky_ne e), if_neg e, h.has]
  · by_cases e : k = n
    · rw [if_pos e] at hk; cases hk
    · rw [if_neg e] at hk
      rw [Maps.atKey_del_other (ky_ne e)]
      exact h.at_ k s' hk z
theorem Says.congr {D : DataW Unit} {g g' : Int → Option α} (h : Says D rd g) (e : ∀ k, g k = g' k) : Says D rd g' := by
  have : g = g' := funext e
  rw [← this]; exact h
end
abbrev rdI (n : Int) : DataW Unit := .lit (.int .i64 n)

/-- A book: its struct's block, its map's block if it has one, at most so many jobs, and what it has. -/
structure BookAt (w : World) (p : Nat) (m : Option Nat) (k : Nat) (L : List (Int × Int)) : Prop where
  blk : Bk w p 78 #[.map m]
  none_ : m = none → L = []
  own : ∀ b, m = some b → ∃ D, w.ownsMap Try.prog 3 (plainElem Try.prog 3) b k D ∧ Says D rdI (look L)
  ok : OkL L
theorem not_map {w : World} {g b n : Nat} {t k : TypeId} {cs : Array Value} {R : Value → Option (DataW Unit × List MemPlace)} {D : DataW Unit} (h : Bk w g t cs) (ho : w.ownsMap Try.prog k R b n D) : g ≠ b := by
  rintro rfl
  obtain ⟨es, cl, hb, _⟩ := ho
  unfold Bk at h
  rw [hb] at h
  cases h
section
variable {w w' : World} {p : Nat} {m : Option Nat} {k : Nat} {L : List (Int × Int)}
theorem BookAt.next (h : BookAt w p m k L) (hb : Below w.heap.size w w') : BookAt w' p m k L :=
  ⟨h.blk.next hb, h.none_, fun b e => by obtain ⟨D, h1, h2⟩ := h.own b e; exact ⟨D, h1.kept (only_of_below hb) (by simp), h2⟩, h.ok⟩
theorem BookAt.hid (h : BookAt w p m k L) (e : Hid (w' = w.drew)) : BookAt w' p m k L := by
  rw [e.out]
  exact ⟨h.blk, h.none_, fun b e => by obtain ⟨D, h1, h2⟩ := h.own b e; exact ⟨D, h1.drew, h2⟩, h.ok⟩
theorem BookAt.cell (h : BookAt w p m k L) : w.cell? ⟨p, 0, none⟩ = some (.map m) := h.blk.cell 0 _ rfl
theorem BookAt.ne (h : BookAt w p m k L) {g : Nat} {t : TypeId} {cs : Array Value} (hg : Bk w g t cs) : m ≠ some g := by
  rintro rfl
  obtain ⟨D, h1, _⟩ := h.own g rfl
  exact not_map hg h1 rfl
theorem BookAt.lt (h : BookAt w p m k L) {b : Nat} (e : m = some b) : b < w.heap.size := by
  obtain ⟨D, h1, _⟩ := h.own b e
  exact h1.lt
/-- A job's number, looked up. -/
theorem BookAt.look (h : BookAt w p m k L) {n : Int} (hn : wf n) : (Instr.lookup 76 (.map m) (.int .i64 n) false).run Try.prog w = .ok (.int .i64 (jobS L n)) w := by
  cases m with
  | none =>
    rw [h.none_ rfl]
    kernel_rfl
  | some b =>
    obtain ⟨D, h1, h2⟩ := h.own b rfl
    obtain ⟨v, ps, hr, hv⟩ := h1.lookup law3 Try.underlying76 (zero3 w) (plainElem_int Try.underlying3 (by decide)) (key_of hn)
    obtain ⟨c, rfl, hc, _⟩ := plainElem_int_inv Try.underlying3 hv
    have e : jobS L n = c := by
      have := congrArg Prod.fst hc
      unfold jobS
      cases hg : Ytjolkcomlindhaa.look L n with
      | none =>
        rw [atKey_out h2.map (by rw [h2.has, hg]; rfl)] at this
        simpa using this
      | some s =>
        rw [h2.at_ n s hg] at this
        simpa using this
    rw [e]
    exact hr
end
/-- What may have turned: the book's block and its map's. -/
structure Tn (w w' : World) (p : Nat) (m : Option Nat) : Prop where
  os : w'.os = w.os
  tape : w'.tape = w.tape
  output : w'.output = w.output
  size : w.heap.size ≤ w'.heap.size
  block : ∀ i, i < w.heap.size → i ≠ p → m ≠ some i → w'.heap[i]? = w.heap[i]?
theorem Tn.of_below {w w' : World} {p : Nat} {m : Option Nat} (h : Below w.heap.size w w') : Tn w w' p m := ⟨h.os, h.tape, h.output, h.size, fun i hi _ _ => h.block i hi⟩
end Go.Proofs.Ytjolkcomlindhaa
/- A book: New, Job, Note. -/
namespace Go.Proofs.Ytjolkcomlindhaa
open Go.RowKit Go.Maps

/-- A map that is there stays; one that is made is new. -/
def Fresh (w : World) (m m' : Option Nat) : Prop := m' = m ∨ (m = none ∧ ∃ b, m' = some b ∧ w.heap.size ≤ b)
theorem Tn.trans {w w1 w2 : World} {p : Nat} {m m' : Option Nat} (h : Tn w w1 p m) (f : Fresh w m m') (k : Tn w1 w2 p m') : Tn w w2 p m :=
  ⟨k.os.trans h.os, k.tape.trans h.tape, k.output.trans h.output, Nat.le_trans h.size k.size, fun i hi h1 h2 => (k.block i (Nat.lt_of_lt_of_le hi h.size) h1 (by
    rcases f with rfl | ⟨_, b, rfl, hb⟩
    · exact h2
    · rintro ⟨⟩
      omega)).trans (h.block i hi h1 h2)⟩
theorem Fresh.trans {w w1 : World} {m m1 m2 : Option Nat} (h : Fresh w m m1) (hs : w.heap.size ≤ w1.heap.size) (k : Fresh w1 m1 m2) : Fresh w m m2 := by
  rcases k with rfl | ⟨rfl, b, rfl, hb⟩
  · exact h
  · rcases h with rfl | ⟨_, b', e, _⟩
    · exact .inr ⟨rfl, b, rfl, by omega⟩
    · cases e
theorem Tn.below {w w' : World} {p B : Nat} {m : Option Nat} (h : Tn w w' p m) (hB : B ≤ w.heap.size) (hp : B ≤ p) (hm : ∀ b, m = some b → B ≤ b) : Below B w w' :=
  ⟨h.os, h.tape, h.output, h.size, fun i hi => h.block i (by omega) (by omega) (fun e => by have := hm i e; omega)⟩
/-- What else lies there is as it was. -/
theorem Bk.tn {w w' : World} {p g k : Nat} {t : TypeId} {cs : Array Value} {m : Option Nat} {L : List (Int × Int)} (h : Bk w g t cs) (hk : BookAt w p m k L) (ht : Tn w w' p m) (hne : g ≠ p) : Bk w' g t cs :=
  (ht.block g h.lt hne (hk.ne h)).trans h

set_option maxRecDepth 100000 in
set_option maxHeartbeats 400000 in
theorem new_any (w : World) : Calls Try.prog 22 #[] w fun e w' => ∃ p, e = .returned (.pointer (some ⟨p, 0, none⟩)) ∧ w.heap.size ≤ p ∧ BookAt w' p none 0 [] ∧ Below w.heap.size w w' := by
  go_enter Try.func22, Try.ntmps22
  go_wp2_with fail
  go_ret
  exact ⟨w.heap.size, rfl, Nat.le_refl _, ⟨Bk.new _ _ _, fun _ => rfl, (fun b e => by cases e), OkL.nil⟩, below_alloc _ _⟩
set_option maxRecDepth 100000 in
set_option maxHeartbeats 400000 in
theorem job_nil (n : Int) (w : World) : Calls Try.prog 25 #[.pointer none, .int .i64 n] w fun e w' => e = .returned (.int .i64 0) ∧ w = w' := by
  go_enter Try.func25, Try.ntmps25
  go_wp2_with fail
  go_ret
  exact ⟨rfl, rfl⟩
set_option maxRecDepth 100000 in
set_option maxHeartbeats 400000 in
theorem job_any {w : World} {p k : Nat} {m : Option Nat} {L : List (Int × Int)} (h : BookAt w p m k L) {n : Int} (hn : wf n) : Calls Try.prog 25 #[.pointer (some ⟨p, 0, none⟩), .int .i64 n] w fun e w' => e = .returned (.int .i64 (jobS L n)) ∧ w = w' := by
  have hl := h.look hn
  have c0 := h.cell
  clear hn h
  go_enter Try.func25, Try.ntmps25
  go_wp2_with fail
  go_ret
  exact ⟨rfl, rfl⟩
set_option maxRecDepth 100000 in
set_option maxHeartbeats 400000 in
theorem note_nil (u : Us) (w : World) : Calls Try.prog 23 #[.pointer none, u.v] w fun e w' => e = .returned (.int .i64 1) ∧ Below w.heap.size w w' := by
  have hb0 := below_alloc w (.cells #[.int .i64 u.j, .int .i64 u.c, .int .i64 u.f, .int .i64 u.t] 27)
  go_enter Try.func23, Try.ntmps23
  go_wp2_with fail
  go_ret
  exact ⟨rfl, hb0⟩
theorem says_ins {D : DataW Unit} {L : List (Int × Int)} (h : Says D rdI (look L)) (hL : OkL L) {j n : Int} (hn : 0 ≤ n ∧ n ≤ 9223372036854775807) (hM : IsMap (D.put (ky j) (rdI (addE (jobS L j) n)))) : Says (D.put (ky j) (rdI (addE (jobS L j) n))) rdI (look (insB L j n)) :=
  (h.put j _ hM).congr fun k => by rw [look_ins hL hn]; rfl
theorem eqm (w : World) (r : Option Nat) : (binOp .eql 76 (.map r) (.map none)).run Try.prog w = .ok (.bool r.isNone) w := run_eql_map_nil w _ _ _ r Try.underlying76
attribute [local go_sem] eqm
theorem add_q (a b : Int) (ha : wf a) (hb : wf b) (w : World) : Calls Try.prog 17 #[.int .i64 a, .int .i64 b] w fun x w' => x = .returned (.int .i64 (addE a b)) ∧ w' = w := (add_any a b ha hb w).mono fun _ _ h => ⟨h.1, h.2.symm⟩
theorem own_more {w : World} {b n : Nat} {D : DataW Unit} (ho : w.ownsMap Try.prog 3 (plainElem Try.prog 3) b n D) : w.ownsMap Try.prog 3 (plainElem Try.prog 3) b (n + 1) D := by
  obtain ⟨es, cl, e1, e2, e3, e4⟩ := ho
  exact ⟨es, cl, e1, e2, by omega, e4⟩
theorem BookAt.more {w : World} {p k : Nat} {m : Option Nat} {L : List (Int × Int)} (h : BookAt w p m k L) : BookAt w p m (k + 1) L :=
  ⟨h.blk, h.none_, fun b e => by obtain ⟨D, h1, h2⟩ := h.own b e; exact ⟨D, own_more h1, h2⟩, h.ok⟩
set_option maxRecDepth 100000 in
set_option maxHeartbeats 1000000 in
theorem note_no {w : World} {p k : Nat} {m : Option Nat} {L : List (Int × Int)} (_ : BookAt w p m k L) (j c f t n : Int) (K : ∀ V, Calls Try.prog 14 #[useV j c f t] V fun x w' => x = .returned (.tuple #[.int .i64 n, .int .i64 1]) ∧ Below V.heap.size V w') :
    Calls Try.prog 23 #[.pointer (some ⟨p, 0, none⟩), useV j c f t] w fun e w' => e = .returned (.int .i64 1) ∧ Below w.heap.size w w' := by
  have hb0 := below_alloc w (.cells #[.int .i64 j, .int .i64 c, .int .i64 f, .int .i64 t] 27)
  go_enter Try.func23, Try.ntmps23
  go_wp2_with fail
  refine (K _).mono ?_
  rintro x w1 ⟨rfl, hb⟩
  go_wp2_with fail
  go_ret
  exact ⟨rfl, bmore hb0 hb⟩
set_option maxRecDepth 100000 in
set_option maxHeartbeats 1000000 in
theorem note_some {w : World} {p k b : Nat} {L : List (Int × Int)} (h : BookAt w p (some b) k L) (hk : k < 1000) (j c f t n : Int) (hj : 0 ≤ j ∧ j ≤ 1099511627776) (hn : 0 ≤ n ∧ n ≤ 9223372036854775807)
    (K : ∀ V, Calls Try.prog 14 #[useV j c f t] V fun x w' => x = .returned (.tuple #[.int .i64 n, .int .i64 0]) ∧ Below V.heap.size V w') :
    Calls Try.prog 23 #[.pointer (some ⟨p, 0, none⟩), useV j c f t] w fun e w' => e = .returned (.int .i64 0) ∧ BookAt w' p (some b) (k + 1) (insB L j n) ∧ Tn w w' p (some b) := by
  have hb0 := below_alloc w (.cells #[.int .i64 j, .int .i64 c, .int .i64 f, .int .i64 t] 27)
  have kr := Bk.new w 27 #[.int .i64 j, .int .i64 c, .int .i64 f, .int .i64 t]
  replace h := h.next hb0
  have HJ := Lib.hid hj
  have HN := Lib.hid hn
  have HK := Lib.hid hk
  clear hj hn hk
  go_enter Try.func23, Try.ntmps23
  go_wp2_with fail
  refine (K _).mono ?_
  rintro x w1 ⟨rfl, hb⟩
  replace kr := kr.next hb
  replace h := h.next hb
  replace hb0 := bmore hb0 hb
  clear hb K
  have c0 := h.cell
  go_wp2_with fail
  refine region_tail 15 (by kernel_rfl) (by kernel_rfl) (fun w5 hw5 => ?_)
  have h5 := h.hid hw5
  have b5 := below_hid hb0 hw5
  have k5 := kr.hid hw5
  clear kr hw5 h hb0 c0
  have c0 := h5.cell
  have d0 := k5.cell 0 _ rfl
  have hl := h5.look (wf_of (n := j) (by have := HJ.out; omega))
  have A := Lib.hid (add_q (jobS L j) n (wf_of (jobS_wf h5.ok j)) (wf_of HN.out))
  obtain ⟨D, ho, hS⟩ := h5.own b rfl
  have hbk := h5.blk
  have hne := h5.ne hbk
  have hok := Lib.hid h5.ok
  clear h5
  simp only [List.take_succ_cons, List.take_zero, List.drop_succ_cons, List.drop_zero]
  repeat (first | (still_call (A.out _)) | still_step)
  refine wpStill_nil ?_
  go_wp2_with (at_mapUpdate; refine wpList_mapUpdate_own _ rfl _ _ _ 76 rfl 3 3 law3 Try.underlying76 _ b k D rfl ho (by have := HK.out; unfold maxLen; omega) _ _ _ rfl rfl (key_of (wf_of (n := j) (by have := HJ.out; omega))) (rdI (addE (jobS L j) n)) [] (plainElem_int Try.underlying3 (wf_of (addE_wf _ _))) ?_; intro w6 ho6 hg6)
  go_ret
  refine ⟨rfl, ⟨hbk.grown hg6 (fun e => hne (by rw [e])), (fun e => by cases e), ?_, hok.out.ins HJ.out HN.out⟩, ?_⟩
  · rintro b' ⟨⟩
    exact ⟨_, ho6, says_ins hS hok.out HN.out ho6.isMap⟩
  · have hs := b5.size
    exact ⟨hg6.os.trans b5.os, hg6.tape.trans b5.tape, hg6.output.trans b5.output, by have := hg6.size; omega, fun i hi _ h2 => (hg6.block i (by omega) (fun e => h2 (by rw [e]))).trans (b5.block i hi)⟩
set_option maxRecDepth 100000 in
set_option maxHeartbeats 1000000 in
theorem note_made {w : World} {p k : Nat} {L : List (Int × Int)} (h : BookAt w p none k L) (hk : k < 1000) (j c f t n : Int) (hj : 0 ≤ j ∧ j ≤ 1099511627776) (hn : 0 ≤ n ∧ n ≤ 9223372036854775807)
    (K : ∀ V, Calls Try.prog 14 #[useV j c f t] V fun x w' => x = .returned (.tuple #[.int .i64 n, .int .i64 0]) ∧ Below V.heap.size V w') :
    Calls Try.prog 23 #[.pointer (some ⟨p, 0, none⟩), useV j c f t] w fun e w' => ∃ b, e = .returned (.int .i64 0) ∧ BookAt w' p (some b) (k + 1) (insB L j n) ∧ Tn w w' p none ∧ w.heap.size ≤ b := by
  have hb0 := below_alloc w (.cells #[.int .i64 j, .int .i64 c, .int .i64 f, .int .i64 t] 27)
  have kr := Bk.new w 27 #[.int .i64 j, .int .i64 c, .int .i64 f, .int .i64 t]
  have hpl := h.blk.lt
  replace h := h.next hb0
  have HJ := Lib.hid hj
  have HN := Lib.hid hn
  have HK := Lib.hid hk
  clear hj hn hk
  have hmm := @run_makeMap Try.prog
  go_enter Try.func23, Try.ntmps23
  go_wp2_with fail
  refine (K _).mono ?_
  rintro x w1 ⟨rfl, hb⟩
  replace kr := kr.next hb
  replace h := h.next hb
  replace hb0 := bmore hb0 hb
  clear hb K
  have c0 := h.cell
  have f0 := h.blk.frozen 0
  have hs0 := hb0.size
  have hs1 := h.blk.lt
  have hz : (w1.setCell ⟨p, 0, none⟩ (.map (some w1.heap.size))).heap.size = w1.heap.size := by simp
  have h1 : BookAt ((w1.setCell ⟨p, 0, none⟩ (.map (some w1.heap.size))).alloc (.map #[] 0)) p (some w1.heap.size) k [] := by
    refine ⟨?_, (fun e => by cases e), ?_, OkL.nil⟩
    · exact (h.blk.set 0 _).alloc _
    · rintro b ⟨⟩
      obtain ⟨es, cl, e1, e2, e3, e4⟩ := World.ownsMap_made (H := Unit) (w1.setCell ⟨p, 0, none⟩ (.map (some w1.heap.size))) Try.prog 3 (plainElem Try.prog 3)
      rw [hz] at e1
      exact ⟨.map [], ⟨es, cl, e1, e2, by omega, e4⟩, says_none⟩
  have kr1 : Bk ((w1.setCell ⟨p, 0, none⟩ (.map (some w1.heap.size))).alloc (.map #[] 0)) w.heap.size 27 #[.int .i64 j, .int .i64 c, .int .i64 f, .int .i64 t] :=
    Bk.alloc ((heap_setCell_other _ _ _ _ (show w.heap.size ≠ p by omega)).trans kr) _
  have hL := Lib.hid (h.none_ rfl)
  have T1 : Tn w ((w1.setCell ⟨p, 0, none⟩ (.map (some w1.heap.size))).alloc (.map #[] 0)) p none := by
    have hg := grownBy_setCell' w1 p (.map (some w1.heap.size))
    have hb2 := below_alloc (w1.setCell ⟨p, 0, none⟩ (.map (some w1.heap.size))) (.map #[] 0)
    exact ⟨hb2.os.trans (hg.os.trans hb0.os), hb2.tape.trans (hg.tape.trans hb0.tape), hb2.output.trans (hg.output.trans hb0.output), Nat.le_trans hb0.size (Nat.le_trans hg.size hb2.size), fun i hi h1 _ => (hb2.block i (by omega)).trans ((hg.block i (by omega) (fun e => h1 (by cases e; rfl))).trans (hb0.block i hi))⟩
  go_wp2_with fail
  obtain ⟨w2, hw2⟩ : ∃ w2, ((w1.setCell ⟨p, 0, none⟩ (.map (some w1.heap.size))).alloc (.map #[] 0)) = w2 := ⟨_, rfl⟩
  rw [hw2] at h1 kr1 T1 ⊢
  clear hw2 c0 f0 kr h hmm hz
  refine region_tail 15 (by kernel_rfl) (by kernel_rfl) (fun w5 hw5 => ?_)
  have h5 := h1.hid hw5
  have k5 := kr1.hid hw5
  have T5 : Tn w w5 p none := by rw [hw5.out]; exact ⟨T1.os, T1.tape, T1.output, T1.size, T1.block⟩
  clear hw5 h1 kr1 T1
  have c0 := h5.cell
  have d0 := k5.cell 0 _ rfl
  have hl := h5.look (wf_of (n := j) (by have := HJ.out; omega))
  have A := Lib.hid (add_q (jobS [] j) n (wf_of (jobS_wf h5.ok j)) (wf_of HN.out))
  obtain ⟨D, ho, hS⟩ := h5.own _ rfl
  have hbk := h5.blk
  have hne := h5.ne hbk
  clear h5
  simp only [List.take_succ_cons, List.take_zero, List.drop_succ_cons, List.drop_zero]
  repeat (first | (still_call (A.out _)) | still_step)
  refine wpStill_nil ?_
  go_wp2_with (at_mapUpdate; refine wpList_mapUpdate_own _ rfl _ _ _ 76 rfl 3 3 law3 Try.underlying76 _ _ k D rfl ho (by have := HK.out; unfold maxLen; omega) _ _ _ rfl rfl (key_of (wf_of (n := j) (by have := HJ.out; omega))) (rdI (addE (jobS [] j) n)) [] (plainElem_int Try.underlying3 (wf_of (addE_wf _ _))) ?_; intro w6 ho6 hg6)
  go_ret
  rw [hL.out]
  refine ⟨w1.heap.size, rfl, ⟨hbk.grown hg6 (fun e => hne (by rw [e])), (fun e => by cases e), ?_, OkL.nil.ins HJ.out HN.out⟩, ?_, hs0⟩
  · rintro b' ⟨⟩
    exact ⟨_, ho6, says_ins hS OkL.nil HN.out ho6.isMap⟩
  · have hs := T5.size
    exact ⟨hg6.os.trans T5.os, hg6.tape.trans T5.tape, hg6.output.trans T5.output, by have := hg6.size; omega, fun i hi h1 h2 => (hg6.block i (by omega) (fun e => by cases e; omega)).trans (T5.block i hi h1 h2)⟩
theorem note_any {w : World} {p k : Nat} {m : Option Nat} {L : List (Int × Int)} (h : BookAt w p m k L) (u : Us) (hk : k < 1000) :
    Calls Try.prog 23 #[.pointer (some ⟨p, 0, none⟩), u.v] w fun e w' => ∃ m', e = .returned (.int .i64 u.e) ∧ BookAt w' p m' (k + 1) (noted L u) ∧ Tn w w' p m ∧ Fresh w m m' := by
  have K := of_any u.j u.c u.f u.t u.wc u.wr u.wt
  cases q : u.may
  · have e0 : ofE u.j u.c u.f u.t = 1 := by simp [ofE, q]
    rw [e0] at K
    refine (note_no h u.j u.c u.f u.t _ K).mono ?_
    rintro e w' ⟨rfl, hb⟩
    refine ⟨m, by rw [show u.e = 1 from e0], ?_, Tn.of_below hb, .inl rfl⟩
    rw [show noted L u = L from by simp [noted, q]]
    exact (h.next hb).more
  · have e0 : ofE u.j u.c u.f u.t = 0 := by simp [ofE, q]
    rw [e0] at K
    rw [show noted L u = insB L u.j u.n from by simp [noted, q]]
    cases m with
    | none =>
      refine (note_made h hk u.j u.c u.f u.t _ (Us.jn q) (ofN_wf _ _ _ _) K).mono ?_
      rintro e w' ⟨b, rfl, h1, h2, h3⟩
      exact ⟨some b, by rw [show u.e = 0 from e0], h1, h2, .inr ⟨rfl, b, rfl, h3⟩⟩
    | some b =>
      refine (note_some h hk u.j u.c u.f u.t _ (Us.jn q) (ofN_wf _ _ _ _) K).mono ?_
      rintro e w' ⟨rfl, h1, h2⟩
      exact ⟨some b, by rw [show u.e = 0 from e0], h1, h2, .inl rfl⟩
end Go.Proofs.Ytjolkcomlindhaa
