/- Tasks told, while a table turns; whether two lists are the same. -/
import Derived.Test.YtjolkcomlindhaaGQ1xH1xQ2
namespace Go.Proofs.Ytjolkcomlindhaa
open Go.RowKit Go.Shelf Go.Maps Go.Sort

section
variable {V V' : World} {p k B : Nat} {m : Option Nat} {N : Int} {T T0 Q : List Pr} {v : Value}
theorem Cs.tt {A : Option Addr} {zs : List Int} (q : Cs V A zs) (h : TbAt V p m k N T) (t : Tt V V' p m T) : Cs V' A zs := by
  have hblk : ∀ ad, A = some ad → V'.heap[ad.block]? = V.heap[ad.block]? := fun ad e => by
    obtain ⟨cur, hc⟩ := q.cells ad e
    have hk : Bk V ad.block 3 cur := hc
    rw [hc]
    exact hk.tt h t (by decide) (by decide)
  refine ⟨?_, fun ad e => ?_⟩
  · rcases q.ints with e | ⟨ad, e, h1, h2⟩
    · exact .inl e
    · refine .inr ⟨ad, e, Nat.lt_of_lt_of_le h1 t.size, fun j hj => ?_⟩
      rw [← h2 j hj]
      simp only [World.cell?, block_add, hblk ad e]
  · obtain ⟨cur, hc⟩ := q.cells ad e
    exact ⟨cur, (hblk ad e).trans hc⟩
theorem Told.next (h : Told V B v Q T0) (hb : Below V.heap.size V V') : Told V' B v Q T0 :=
  ⟨own_next h.row hb, fun x hx => (h.cs x hx).next hb, h.len, h.same⟩
theorem Told.tt (h : Told V B v Q T0) (ht : TbAt V p m k N T) (t : Tt V V' p m T) : Told V' B v Q T0 := by
  refine ⟨⟨h.row.1, ?_⟩, fun x hx => (h.cs x hx).tt ht t, h.len, h.same⟩
  rcases h.row.2 with h0 | ⟨g, cap, cur, h1, h2, h3, h4⟩
  · exact .inl h0
  · have hk : Bk V g 61 cur := h3
    exact .inr ⟨g, cap, cur, h1, h2, hk.tt ht t (by decide) (by decide), h4⟩
end
theorem sameT.symm {x y : Pr} (h : sameT x y) : sameT y x := ⟨h.1.symm, h.2.1.symm, h.2.2.1.symm, h.2.2.2.1.symm, h.2.2.2.2.1.symm, h.2.2.2.2.2.1.symm, h.2.2.2.2.2.2.1.symm, h.2.2.2.2.2.2.2.symm⟩
theorem sameT.trans {x y z : Pr} (h : sameT x y) (g : sameT y z) : sameT x z := ⟨h.1.trans g.1, h.2.1.trans g.2.1, h.2.2.1.trans g.2.2.1, h.2.2.2.1.trans g.2.2.2.1, h.2.2.2.2.1.trans g.2.2.2.2.1, h.2.2.2.2.2.1.trans g.2.2.2.2.2.1, h.2.2.2.2.2.2.1.trans g.2.2.2.2.2.2.1, h.2.2.2.2.2.2.2.trans g.2.2.2.2.2.2.2⟩
/-- The eight cells of a task, in whatever world. -/
structure Tk8 (w : World) (e : Addr) (x : Pr) : Prop where
  c : w.cell? e = some (.int .i64 x.pid) ∧ w.cell? ⟨e.block, e.off + 1, none⟩ = some (.int .i64 x.j) ∧ w.cell? ⟨e.block, e.off + 2, none⟩ = some (.int .i64 x.e) ∧ w.cell? ⟨e.block, e.off + 3, none⟩ = some (.int .i64 x.s) ∧ w.cell? ⟨e.block, e.off + 4, none⟩ = some (.int .i64 x.r) ∧ w.cell? ⟨e.block, e.off + 5, none⟩ = some (.slice x.A x.cs.length x.cap) ∧ w.cell? ⟨e.block, e.off + 6, none⟩ = some (.int .i64 x.st) ∧ w.cell? ⟨e.block, e.off + 7, none⟩ = some (.int .i64 x.code)
theorem TkAt.in_ {w : World} {e : Addr} {x : Pr} (h : TkAt w e x) (he : e.block < w.heap.size) :
    (∀ n : Mo.In w.heap.size w, n.val.cell? e = some (.int .i64 x.pid)) ∧ (∀ n : Mo.In w.heap.size w, n.val.cell? ⟨e.block, e.off + 1, none⟩ = some (.int .i64 x.j)) ∧ (∀ n : Mo.In w.heap.size w, n.val.cell? ⟨e.block, e.off + 2, none⟩ = some (.int .i64 x.e)) ∧ (∀ n : Mo.In w.heap.size w, n.val.cell? ⟨e.block, e.off + 3, none⟩ = some (.int .i64 x.s)) ∧ (∀ n : Mo.In w.heap.size w, n.val.cell? ⟨e.block, e.off + 4, none⟩ = some (.int .i64 x.r)) ∧ (∀ n : Mo.In w.heap.size w, n.val.cell? ⟨e.block, e.off + 5, none⟩ = some (.slice x.A x.cs.length x.cap)) ∧ (∀ n : Mo.In w.heap.size w, n.val.cell? ⟨e.block, e.off + 6, none⟩ = some (.int .i64 x.st)) ∧ (∀ n : Mo.In w.heap.size w, n.val.cell? ⟨e.block, e.off + 7, none⟩ = some (.int .i64 x.code)) :=
  ⟨Mo.In.cell (p := e) he h.c0, Mo.In.cell (p := ⟨e.block, e.off + 1, none⟩) he h.c1, Mo.In.cell (p := ⟨e.block, e.off + 2, none⟩) he h.c2, Mo.In.cell (p := ⟨e.block, e.off + 3, none⟩) he h.c3, Mo.In.cell (p := ⟨e.block, e.off + 4, none⟩) he h.c4, Mo.In.cell (p := ⟨e.block, e.off + 5, none⟩) he h.c5, Mo.In.cell (p := ⟨e.block, e.off + 6, none⟩) he h.c6, Mo.In.cell (p := ⟨e.block, e.off + 7, none⟩) he h.c7⟩
/-- A list of tasks, as it is read. -/
structure Tks (V : World) (A : Option Addr) (Q : List Pr) : Prop where
  at_ : ∀ i x, Q[i]? = some x → ∃ ad, A = some ad ∧ ad.block < V.heap.size ∧ TkAt V (ad.add (i * 8)) x
  cs : ∀ x ∈ Q, IntsAt V x.A x.cs
  few : ∀ x ∈ Q, x.cs.length ≤ 1000
theorem Tks.next {V V' : World} {A : Option Addr} {Q : List Pr} (h : Tks V A Q) (hb : Below V.heap.size V V') : Tks V' A Q :=
  ⟨fun i x hx => by
    obtain ⟨ad, e, h1, h2⟩ := h.at_ i x hx
    exact ⟨ad, e, Nat.lt_of_lt_of_le h1 hb.size, h2.next (by rw [block_add]; exact h1) hb⟩, fun x hx => (h.cs x hx).next hb, h.few⟩
theorem Told.tks {V : World} {B cap : Nat} {A : Option Addr} {Q T : List Pr} (h : Told V B (.slice A Q.length cap) Q T) (hT : ∀ x ∈ T, x.cs.length ≤ 1000) : Tks V A Q := by
  refine ⟨fun i x hx => tk_at h.row hx, fun x hx => (h.cs x hx).ints, fun x hx => ?_⟩
  obtain ⟨i, hi, e⟩ := List.getElem_of_mem hx
  have hi2 : i < T.length := by rw [← h.len]; exact hi
  have hs := h.same i x T[i] (by rw [List.getElem?_eq_getElem hi, e]) (List.getElem?_eq_getElem hi2)
  rw [hs.2.2.2.2.2.2.2]
  exact hT _ (List.getElem_mem _)
set_option maxRecDepth 100000 in
set_option maxHeartbeats 4000000 in
theorem same_tasks (A A' : Option Addr) (n cap cap' : Nat) (Q Q' : List Pr) (w : World) (h : Tks w A Q) (h' : Tks w A' Q') (hn : Q.length = n) (hn' : Q'.length = n) (hl : n ≤ 1000) (hs : ∀ (i : Nat) (x y : Pr), Q[i]? = some x → Q'[i]? = some y → sameT x y) :
    Calls Try.prog 45 #[.slice A n cap, .slice A' n cap'] w fun e w' => e = .returned (.bool true) ∧ Below w.heap.size w w' := by
  have H := Lib.hid h
  have H' := Lib.hid h'
  have HN := Lib.hid hn
  have HN' := Lib.hid hn'
  have HS := Lib.hid hs
  clear h h' hn hn' hs
  go_enter Try.func45, Try.ntmps45
  go_wp2_with fail
  go_loopg [5] n (fun g s5 wr => ∃ i : Nat, i + g = n ∧ s5 = .int .i64 i ∧ Below w.heap.size w wr)
  case atStart => exact ⟨0, by omega, rfl, Below.refl _ _⟩
  case round =>
    obtain ⟨i, hig, rfl, hb⟩ := hrel
    cases gk with
    | zero =>
      obtain rfl : i = n := by omega
      have hlt : ¬ ((i : Int) < (i : Int)) := by omega
      go_wp2_with fail
      go_ret
      exact ⟨rfl, hb⟩
    | succ g =>
      have i0 : (0 : Int) ≤ (i : Int) := by omega
      have i1 : (i : Int) < (n : Int) := by omega
      have hi : i < Q.length := by rw [HN.out]; omega
      have hi' : i < Q'.length := by rw [HN'.out]; omega
      have ex := List.getElem?_eq_getElem hi
      have ey := List.getElem?_eq_getElem hi'
      have hmx : Q[i] ∈ Q := List.getElem_mem _
      have hmy : Q'[i] ∈ Q' := List.getElem_mem _
      have hxy := HS.out i _ _ ex ey
      have k1 := H.out.next hb
      have k2 := H'.out.next hb
      obtain ⟨ad, rfl, h1, t1⟩ := k1.at_ i _ ex
      obtain ⟨ad', rfl, h2, t2⟩ := k2.at_ i _ ey
      have SM := Lib.hid (fun j : Mo.In wr.heap.size wr => one_same hxy j.val ((k1.cs _ hmx).next j.ok) ((k2.cs _ hmy).next j.ok) (k1.few _ hmx))
      obtain ⟨a0, a1, a2, a3, a4, a5, a6, a7⟩ := t1.in_ (by rw [block_add]; exact h1)
      obtain ⟨b0, b1, b2, b3, b4, b5, b6, b7⟩ := t2.in_ (by rw [block_add]; exact h2)
      have hIn := Mo.inNonempty wr.heap.size wr
      clear k1 k2 t1 t2 ex ey hmx hmy hxy
      generalize Q[i] = x at *
      generalize Q'[i] = y at *
      go_wp2_with fail
      refine Mo.region_in wr.heap.size (by kernel_rfl) (by kernel_rfl) ?_
      repeat (go_big_quiet_step (first | (go_at_call 38; with_reducible exact Mo.Calls.in_of (Nat.le_refl _) (SM.out _))))
      refine wpQuiet_nil ?_
      intro w6 hb6
      clear a0 a1 a2 a3 a4 a5 a6 a7 b0 b1 b2 b3 b4 b5 b6 b7
      go_wp2_with fail
      go_roundg g
      case measure => omega
      case rel => exact ⟨i + 1, by omega, by go_num, bmore hb hb6⟩
end Go.Proofs.Ytjolkcomlindhaa
/- The document's table, as it lasts. -/
namespace Go.Proofs.Ytjolkcomlindhaa
open Go.RowKit Go.Shelf Go.Maps Go.Sort

/-- All blocks but these are as they were. -/
structure Td (X : Nat → Prop) (w w' : World) : Prop where
  os : w'.os = w.os
  tape : w'.tape = w.tape
  output : w'.output = w.output
  size : w.heap.size ≤ w'.heap.size
  block : ∀ k, k < w.heap.size → ¬ X k → w'.heap[k]? = w.heap[k]?
section
variable {X : Nat → Prop} {a b c w w' : World}
theorem Td.of_below (h : Below w.heap.size w w') : Td X w w' := ⟨h.os, h.tape, h.output, h.size, fun k hk _ => h.block k hk⟩
theorem Td.trans (h : Td X a b) (k : Td X b c) : Td X a c :=
  ⟨k.os.trans h.os, k.tape.trans h.tape, k.output.trans h.output, Nat.le_trans h.size k.size, fun i hi hx => (k.block i (Nat.lt_of_lt_of_le hi h.size) hx).trans (h.block i hi hx)⟩
theorem Td.grown {row : Option Nat} (h : w.grownBy w' row) (hr : ∀ k, row = some k → X k) : Td X w w' := ⟨h.os, h.tape, h.output, h.size, fun k hk hx => h.block k hk (fun e => hx (hr k e.symm))⟩
theorem Td.set (p : Addr) (hx : X p.block) (u : Value) : Td X w (w.setCell p u) :=
  ⟨rfl, rfl, rfl, by simp [World.setCell], fun k _ hk => Below.heap_setCell _ _ _ _ (fun e => hk (e ▸ hx))⟩
theorem Td.below (h : Td X w w') {B : Nat} (hB : ∀ i, X i → B ≤ i) (hs : B ≤ w.heap.size) : Below B w w' :=
  ⟨h.os, h.tape, h.output, h.size, fun k hk => h.block k (Nat.lt_of_lt_of_le hk hs) (fun hx => by have := hB k hx; omega)⟩
theorem Td.bk {g : Nat} {t : TypeId} {cs : Array Value} (h : Td X w w') (hb : Bk w g t cs) (hx : ¬ X g) : Bk w' g t cs := (h.block g hb.lt hx).trans hb
end
/-- A row's block. -/
theorem row_bk {w : World} {base size n g : Nat} {e : TypeId} {v : Value} {xs : List Value} (h : w.ownsRow base e size v n xs) (hb : v.ownBlock = some g) : base ≤ g ∧ ∃ cs, Bk w g e cs := by
  rcases h.2 with ⟨rfl, _⟩ | ⟨g', c, cu, rfl, h2, h3, _⟩
  · simp [Value.ownBlock] at hb
  · have e : g' = g := by simpa [Value.ownBlock] using hb
    subst e
    exact ⟨h2, _, h3⟩
theorem row_kept {w w' : World} {base size n : Nat} {e : TypeId} {v : Value} {xs : List Value} (h : w.ownsRow base e size v n xs) (hg : ∀ g, v.ownBlock = some g → w'.heap[g]? = w.heap[g]?) : w'.ownsRow base e size v n xs := by
  refine ⟨h.1, ?_⟩
  rcases h.2 with h0 | ⟨g, cap, cur, h1, h2, h3, h4⟩
  · exact .inl h0
  · subst h1
    exact .inr ⟨g, cap, cur, rfl, h2, (hg g (by simp [Value.ownBlock])).trans h3, h4⟩
theorem cs_kept {V V' : World} {A : Option Addr} {zs : List Int} (q : Cs V A zs) (hs : V.heap.size ≤ V'.heap.size) (hblk : ∀ ad, A = some ad → V'.heap[ad.block]? = V.heap[ad.block]?) : Cs V' A zs := by
  refine ⟨?_, fun ad e => ?_⟩
  · rcases q.ints with e | ⟨ad, e, h1, h2⟩
    · exact .inl e
    · refine .inr ⟨ad, e, Nat.lt_of_lt_of_le h1 hs, fun j hj => ?_⟩
      rw [← h2 j hj]
      simp only [World.cell?, block_add, hblk ad e]
  · obtain ⟨cur, hc⟩ := q.cells ad e
    exact ⟨cur, (hblk ad e).trans hc⟩
theorem Cs.bk {V : World} {A : Option Addr} {zs : List Int} (q : Cs V A zs) {ad : Addr} (e : A = some ad) : ∃ cur, Bk V ad.block 3 cur := q.cells ad e
theorem kRow_set : ∀ (Q : List Pr) (k : Nat) (x x' : Pr) (j : Nat) (u : Value), Q[k]? = some x → j < 8 → x'.c8 = x.c8.set j u → kRow (Q.set k x') = (kRow Q).set (k * 8 + j) u
  | [], k, x, x', j, u, h, _, _ => by simp at h
  | y :: Q, 0, x, x', j, u, h, hj, hx => by
    obtain rfl : y = x := by simpa using h
    show x'.c8 ++ kRow Q = (y.c8 ++ kRow Q).set (0 * 8 + j) u
    rw [Nat.zero_mul, Nat.zero_add, List.set_append_left _ _ (by simpa using hj), hx]
  | y :: Q, k + 1, x, x', j, u, h, hj, hx => by
    have ih := kRow_set Q k x x' j u (by simpa using h) hj hx
    show y.c8 ++ kRow (Q.set k x') = (y.c8 ++ kRow Q).set ((k + 1) * 8 + j) u
    have e : (k + 1) * 8 + j = y.c8.length + (k * 8 + j) := by simp; omega
    rw [ih, e, List.set_append_right _ _ (by omega), Nat.add_sub_cancel_left]
theorem iv_set (zs : List Int) (i : Nat) (x : Int) : (iv zs).set i (.int .i64 x) = iv (zs.set i x) := by simp [iv, List.map_set]
/-- The document's table in memory: its struct, its row of tasks, its row of signals. -/
structure RT (V : World) (r : Nat) (vL vS : Value) (ND : Int) (Q : List Pr) (S : List Int) : Prop where
  blk : Bk V r 58 #[vL, vS, .int .i64 ND]
  rl : V.ownsRow (r + 1) 61 8 vL Q.length (kRow Q)
  rs : V.ownsRow (r + 1) 3 1 vS Q.length (iv S)
  ls : S.length = Q.length
  cs : ∀ x ∈ Q, Cs V x.A x.cs
  few : ∀ x ∈ Q, x.cs.length ≤ 300
  ap : ∀ x ∈ Q, ∀ ad, x.A = some ad → vS.ownBlock ≠ some ad.block
/-- Its blocks. -/
def RX (r : Nat) (vL vS : Value) (i : Nat) : Prop := i = r ∨ vL.ownBlock = some i ∨ vS.ownBlock = some i
section
variable {w V V' : World} {p k r : Nat} {m : Option Nat} {N ND : Int} {T Q : List Pr} {S : List Int} {vL vS : Value}
theorem RT.next (h : RT V r vL vS ND Q S) (hb : Below V.heap.size V V') : RT V' r vL vS ND Q S :=
  ⟨h.blk.next hb, own_next h.rl hb, own_next h.rs hb, h.ls, fun x hx => (h.cs x hx).next hb, h.few, h.ap⟩
theorem RT.tt (h : RT V r vL vS ND Q S) (ht : TbAt V p m k N T) (t : Tt V V' p m T) : RT V' r vL vS ND Q S := by
  refine ⟨h.blk.tt ht t (by decide) (by decide), row_kept h.rl fun g e => ?_, row_kept h.rs fun g e => ?_, h.ls, fun x hx => (h.cs x hx).tt ht t, h.few, h.ap⟩
  · obtain ⟨_, cs, hk⟩ := row_bk h.rl e
    exact (hk.tt ht t (by decide) (by decide)).trans hk.symm
  · obtain ⟨_, cs, hk⟩ := row_bk h.rs e
    exact (hk.tt ht t (by decide) (by decide)).trans hk.symm
/-- A block of another type is none of them. -/
theorem RT.not (h : RT V r vL vS ND Q S) {g t : Nat} {cs : Array Value} (hk : Bk V g t cs) (h1 : t ≠ 58) (h2 : t ≠ 61) (h3 : t ≠ 3 ∨ vS.ownBlock ≠ some g) : ¬ RX r vL vS g := by
  rintro (rfl | e | e)
  · exact bk_ne hk h.blk h1 rfl
  · obtain ⟨_, cs', hk'⟩ := row_bk h.rl e
    exact bk_ne hk hk' h2 rfl
  · rcases h3 with h3 | h3
    · obtain ⟨_, cs', hk'⟩ := row_bk h.rs e
      exact bk_ne hk hk' h3 rfl
    · exact h3 e
theorem RT.ge (h : RT V r vL vS ND Q S) : ∀ i, RX r vL vS i → r ≤ i := by
  rintro i (rfl | e | e)
  · exact Nat.le_refl _
  · have := (row_bk h.rl e).1; omega
  · have := (row_bk h.rs e).1; omega
theorem RT.lt (h : RT V r vL vS ND Q S) : ∀ i, RX r vL vS i → i < V.heap.size := by
  rintro i (rfl | e | e)
  · exact h.blk.lt
  · obtain ⟨_, _, hk⟩ := row_bk h.rl e; exact hk.lt
  · obtain ⟨_, _, hk⟩ := row_bk h.rs e; exact hk.lt
/-- Of a map. -/
theorem RT.map (h : RT V r vL vS ND Q S) {b n : Nat} {D : DataW Unit} (ho : V.ownsMap Try.prog 3 ptE b n D) : ¬ RX r vL vS b := by
  rintro (rfl | e | e)
  · exact not_map h.blk ho rfl
  · obtain ⟨_, cs', hk'⟩ := row_bk h.rl e
    exact not_map hk' ho rfl
  · obtain ⟨_, cs', hk'⟩ := row_bk h.rs e
    exact not_map hk' ho rfl
/-- The program's table stands while the document's turns. -/
theorem TbAt.td (h : TbAt V p m k N T) (hR : RT V r vL vS ND Q S) (hp : ∀ x ∈ T, ∀ ad, x.A = some ad → vS.ownBlock ≠ some ad.block) (ht : Td (RX r vL vS) V V') : TbAt V' p m k N T := by
  refine ⟨ht.bk h.blk (hR.not h.blk (by decide) (by decide) (.inl (by decide))), h.none_, fun b e => ?_, fun x hx => ?_, h.up, h.apart, h.pids, h.few⟩
  · obtain ⟨D, h1, h2⟩ := h.own b e
    have hb := ht.block b (h.lt e) (hR.map h1)
    obtain ⟨es, cl, q1, q2⟩ := h1
    exact ⟨D, ⟨es, cl, hb.trans q1, q2⟩, h2⟩
  · have q := h.procs x hx
    refine ⟨ht.bk q.blk (hR.not q.blk (by decide) (by decide) (.inl (by decide))), cs_kept q.cs ht.size fun ad e => ?_, q.len⟩
    obtain ⟨cur, hk⟩ := q.cs.bk e
    exact ht.block ad.block hk.lt (hR.not hk (by decide) (by decide) (.inr (hp x hx ad e)))
/-- Both tables. -/
structure Hd (w V : World) (p : Nat) (m : Option Nat) (k : Nat) (N : Int) (T : List Pr) (r : Nat) (vL vS : Value) (ND : Int) (Q : List Pr) (S : List Int) : Prop where
  lt : Lt w V p m k N T
  rt : RT V r vL vS ND Q S
  hr : w.heap.size ≤ r
  pt : ∀ x ∈ T, ∀ ad, x.A = some ad → vS.ownBlock ≠ some ad.block
theorem Hd.next (h : Hd w V p m k N T r vL vS ND Q S) (hb : Below V.heap.size V V') : Hd w V' p m k N T r vL vS ND Q S := ⟨h.lt.next hb, h.rt.next hb, h.hr, h.pt⟩
theorem Hd.prog {m' : Option Nat} {k' : Nat} {N' : Int} {T' : List Pr} (h : Hd w V p m k N T r vL vS ND Q S) (hL : Lt w V' p m' k' N' T') (ht : Tt V V' p m T) (hp : ∀ x ∈ T', ∀ ad, x.A = some ad → vS.ownBlock ≠ some ad.block) : Hd w V' p m' k' N' T' r vL vS ND Q S :=
  ⟨hL, h.rt.tt h.lt.tab ht, h.hr, hp⟩
/-- The document's row of signals is the same, or new. -/
def SigOf (V : World) (vS vS' : Value) : Prop := ∀ g, vS'.ownBlock = some g → vS.ownBlock = some g ∨ V.heap.size ≤ g
theorem Hd.ref {vL' vS' : Value} {ND' : Int} {Q' : List Pr} {S' : List Int} (h : Hd w V p m k N T r vL vS ND Q S) (ht : Td (RX r vL vS) V V') (hR : RT V' r vL' vS' ND' Q' S') (hs : SigOf V vS vS') : Hd w V' p m k N T r vL' vS' ND' Q' S' := by
  refine ⟨⟨h.lt.tab.td h.rt h.pt ht, h.lt.low.trans (ht.below (fun i hi => Nat.le_trans h.hr (h.rt.ge i hi)) (Nat.le_trans h.hr (Nat.le_of_lt h.rt.blk.lt))), h.lt.hp, h.lt.hm, h.lt.hb⟩, hR, h.hr, fun x hx ad e e2 => ?_⟩
  rcases hs _ e2 with e3 | e3
  · exact h.pt x hx ad e e3
  · obtain ⟨cur, hk⟩ := (h.lt.tab.procs x hx).cs.bk e
    have := hk.lt
    omega
end
end Go.Proofs.Ytjolkcomlindhaa
/- The document's table: at, Release, Exit, Signal. -/
namespace Go.Proofs.Ytjolkcomlindhaa
open Go.RowKit Go.Shelf Go.Maps Go.Sort

section
variable {V : World} {r n cap g i : Nat} {vL vS : Value} {ND : Int} {Q : List Pr} {S : List Int} {x : Pr}
theorem RT.some_ (h : RT V r vL vS ND Q S) (hx : Q[i]? = some x) : ∃ g cap g3 cap3, vL = .slice (some ⟨g, 0, none⟩) Q.length cap ∧ vS = .slice (some ⟨g3, 0, none⟩) Q.length cap3 := by
  have hi := (List.getElem?_eq_some_iff.1 hx).1
  rcases h.rl.2 with ⟨_, h0⟩ | ⟨g, cap, _, e, _⟩
  · omega
  · rcases h.rs.2 with ⟨_, h0⟩ | ⟨g3, cap3, _, e3, _⟩
    · omega
    · exact ⟨g, cap, g3, cap3, e, e3⟩
theorem RT.cell (h : RT V r (.slice (some ⟨g, 0, none⟩) n cap) vS ND Q S) (hx : Q[i]? = some x) {j : Nat} {u : Value} (hj : j < 8) (hu : x.c8[j]? = some u) : V.cell? ⟨g, i * 8 + j, none⟩ = some u := by
  have hc := h.rl.cells (g := g) rfl
  have := hc (i * 8 + j) u ((kRow_get Q i j x hx hj).trans hu)
  have ha : (⟨g, 0, none⟩ : Addr).add (i * 8 + j) = ⟨g, i * 8 + j, none⟩ := by unfold Addr.add; split <;> simp_all
  rwa [ha] at this
theorem RT.sig (h : RT V r vL (.slice (some ⟨g, 0, none⟩) n cap) ND Q S) {z : Int} (hz : S[i]? = some z) : V.cell? ⟨g, i, none⟩ = some (.int .i64 z) := by
  have hc := h.rs.cells (g := g) rfl
  have := hc i (.int .i64 z) (by unfold iv; rw [List.getElem?_map, hz]; rfl)
  have ha : (⟨g, 0, none⟩ : Addr).add i = ⟨g, i, none⟩ := by unfold Addr.add; split <;> simp_all
  rwa [ha] at this
theorem RT.frL (h : RT V r (.slice (some ⟨g, 0, none⟩) n cap) vS ND Q S) (j : Nat) : V.frozen? ⟨g, j, none⟩ = false := by
  obtain ⟨_, cs, hk⟩ := row_bk (g := g) h.rl rfl
  exact hk.frozen j
theorem RT.frS (h : RT V r vL (.slice (some ⟨g, 0, none⟩) n cap) ND Q S) (j : Nat) : V.frozen? ⟨g, j, none⟩ = false := by
  obtain ⟨_, cs, hk⟩ := row_bk (g := g) h.rs rfl
  exact hk.frozen j
theorem RT.setL (h : RT V r (.slice (some ⟨g, 0, none⟩) n cap) vS ND Q S) (hx : Q[i]? = some x) (x' : Pr) {j : Nat} (hj : j < 8) (u : Value) (hc : x'.c8 = x.c8.set j u) (hA : x'.A = x.A) (hcs : x'.cs = x.cs) :
    RT (V.setCell ⟨g, i * 8 + j, none⟩ u) r (.slice (some ⟨g, 0, none⟩) n cap) vS ND (Q.set i x') S := by
  obtain ⟨hg, cs0, hk⟩ := row_bk (g := g) h.rl rfl
  have hmem : ∀ y ∈ Q.set i x', ∃ z ∈ Q, y.A = z.A ∧ y.cs = z.cs := fun y hy => by
    rcases List.mem_or_eq_of_mem_set hy with e | e
    · exact ⟨y, e, rfl, rfl⟩
    · subst e
      exact ⟨x, List.mem_of_getElem? hx, hA, hcs⟩
  have hother : ∀ b, b ≠ g → (V.setCell ⟨g, i * 8 + j, none⟩ u).heap[b]? = V.heap[b]? := fun b hb => Below.heap_setCell _ _ _ _ hb
  have hrn : n = Q.length := by
    rcases h.rl.2 with ⟨e, _⟩ | ⟨_, _, _, e, _⟩
    · cases e
    · cases e; rfl
  refine ⟨(hother r (by omega)).trans h.blk, ?_, ?_, by rw [List.length_set]; exact h.ls, fun y hy => ?_, fun y hy => ?_, fun y hy ad e => ?_⟩
  · rw [List.length_set, kRow_set Q i x x' j u hx hj hc]
    subst hrn
    exact (h.rl.stored (i * 8 + j) u).1
  · rw [List.length_set]
    refine row_kept h.rs fun b e => hother b ?_
    obtain ⟨_, cs', hk'⟩ := row_bk h.rs e
    exact bk_ne hk' hk (by decide)
  · obtain ⟨z, hz, e1, e2⟩ := hmem y hy
    rw [e1, e2]
    refine cs_kept (h.cs z hz) (by simp [World.setCell]) fun ad e => hother _ ?_
    obtain ⟨cur, hk'⟩ := (h.cs z hz).bk e
    exact bk_ne hk' hk (by decide)
  · obtain ⟨z, hz, _, e2⟩ := hmem y hy
    rw [e2]
    exact h.few z hz
  · obtain ⟨z, hz, e1, _⟩ := hmem y hy
    rw [e1] at e
    exact h.ap z hz ad e
theorem RT.setS (h : RT V r vL (.slice (some ⟨g, 0, none⟩) n cap) ND Q S) (i : Nat) (z : Int) :
    RT (V.setCell ⟨g, i, none⟩ (.int .i64 z)) r vL (.slice (some ⟨g, 0, none⟩) n cap) ND Q (S.set i z) := by
  obtain ⟨hg, cs0, hk⟩ := row_bk (g := g) h.rs rfl
  have hother : ∀ b, b ≠ g → (V.setCell ⟨g, i, none⟩ (.int .i64 z)).heap[b]? = V.heap[b]? := fun b hb => Below.heap_setCell _ _ _ _ hb
  have hrn : n = Q.length := by
    rcases h.rs.2 with ⟨e, _⟩ | ⟨_, _, _, e, _⟩
    · cases e
    · cases e; rfl
  refine ⟨(hother r (by omega)).trans h.blk, ?_, ?_, by rw [List.length_set]; exact h.ls, fun y hy => ?_, h.few, h.ap⟩
  · refine row_kept h.rl fun b e => hother b ?_
    obtain ⟨_, cs', hk'⟩ := row_bk h.rl e
    exact bk_ne hk' hk (by decide)
  · rw [← iv_set]
    subst hrn
    exact (h.rs.stored i (.int .i64 z)).1
  · refine cs_kept (h.cs y hy) (by simp [World.setCell]) fun ad e => hother _ fun e2 => ?_
    exact h.ap y hy ad e (by rw [e2]; rfl)
end
/-- What at tells. -/
def AtP (Q : List Pr) (e : Ending) : Prop := e = .returned (.int .i64 (-1)) ∨ ∃ (i : Nat) (x : Pr), Q[i]? = some x ∧ e = .returned (.int .i64 (i : Int))
/-- What a call on the document's table leaves. -/
def ROut (V w' : World) (r : Nat) (vL vS : Value) (Q : List Pr) : Prop :=
  ∃ vL' vS' ND' Q' S', RT w' r vL' vS' ND' Q' S' ∧ Td (RX r vL vS) V w' ∧ SigOf V vS vS' ∧ Q'.length ≤ Q.length + 1
section
variable {V : World} {r : Nat} {vL vS : Value} {ND : Int} {Q : List Pr} {S : List Int}
theorem ROut.same (h : RT V r vL vS ND Q S) : ROut V V r vL vS Q := ⟨vL, vS, ND, Q, S, h, Td.of_below (Below.refl _ _), fun g e => .inl e, by omega⟩
set_option maxRecDepth 100000 in
set_option maxHeartbeats 2000000 in
theorem at_any (h : RT V r vL vS ND Q S) (hl : Q.length ≤ 300) (pid : Int) :
    Calls Try.prog 63 #[.pointer (some ⟨r, 0, none⟩), .int .i64 pid] V fun e w' => AtP Q e ∧ V = w' := by
  have H := Lib.hid h
  obtain ⟨A, cap, rfl⟩ := own_form h.rl
  have c0 := h.blk.cell 0 _ rfl
  obtain ⟨n, hn⟩ : ∃ n, n = Q.length := ⟨_, rfl⟩
  rw [← hn] at H c0 hl
  have HN := Lib.hid hn
  clear h hn
  go_enter Try.func63, Try.ntmps63
  go_wp2_with fail
  go_loopg [5] n (fun g s5 wr => ∃ j : Nat, j + g = n ∧ s5 = .int .i64 j ∧ wr = V)
  case atStart => exact ⟨0, by omega, rfl, rfl⟩
  case round =>
    obtain ⟨j, hj, rfl, rfl⟩ := hrel
    cases gk with
    | zero =>
      obtain rfl : j = n := by omega
      have hlt : ¬ ((j : Int) < (j : Int)) := by omega
      go_wp2_with fail
      go_ret
      exact ⟨.inl rfl, rfl⟩
    | succ g1 =>
      have p0 : (0 : Int) ≤ (j : Int) := by omega
      have p1 : (j : Int) < (n : Int) := by omega
      obtain ⟨x, ex⟩ : ∃ x, Q[j]? = some x := ⟨_, List.getElem?_eq_getElem (by have := HN.out; omega)⟩
      obtain ⟨g, cap', g3, cap3, e1, _⟩ := H.out.some_ ex
      obtain ⟨rfl, rfl⟩ : A = some ⟨g, 0, none⟩ ∧ cap = cap' := by injection e1 with e1 _ e2; exact ⟨e1, e2⟩
      have a0 := H.out.cell ex (j := 0) (by decide) rfl
      simp only [Nat.add_zero] at a0
      have HX := Lib.hid ex
      clear e1 ex
      by_cases e : x.pid = pid
      · have t0 : (x.pid == pid) = true := by simpa using e
        clear e
        go_wp2_with fail
        go_ret
        exact ⟨.inr ⟨j, x, HX.out, rfl⟩, rfl⟩
      · have t0 : (x.pid == pid) = false := by simpa using e
        clear e
        go_wp2_with fail
        go_roundg g1
        case measure => omega
        case rel => exact ⟨j + 1, by omega, by go_num, rfl⟩
set_option maxRecDepth 100000 in
set_option maxHeartbeats 2000000 in
theorem rrel_any (h : RT V r vL vS ND Q S) (hl : Q.length ≤ 300) (pid : Int) :
    Calls Try.prog 50 #[.pointer (some ⟨r, 0, none⟩), .int .i64 pid] V fun e w' => (∃ er : Int, e = .returned (.int .i64 er)) ∧ ROut V w' r vL vS Q := by
  have KA := Lib.hid (at_any h hl pid)
  have H := Lib.hid h
  clear h
  go_enter Try.func50, Try.ntmps50
  go_wp2_with fail
  refine KA.out.mono ?_
  rintro _ w1 ⟨hA, rfl⟩
  rcases hA with rfl | ⟨i, x, hx, rfl⟩
  · go_wp2_with fail
    go_ret
    exact ⟨⟨_, rfl⟩, ROut.same H.out⟩
  · obtain ⟨g, cap, g3, cap3, rfl, rfl⟩ := H.out.some_ hx
    have hi := (List.getElem?_eq_some_iff.1 hx).1
    have c0 := H.out.blk.cell 0 _ rfl
    have a6 := H.out.cell hx (j := 6) (by decide) rfl
    have f6 := H.out.frL (i * 8 + 6)
    have HX := Lib.hid hx
    clear hx
    have t0 : decide ((i : Int) < 0) = false := by simp
    have p0 : (0 : Int) ≤ (i : Int) := by omega
    have p1 : (i : Int) < (Q.length : Int) := by omega
    by_cases e : x.st = 0
    · have t1 : (x.st != 0) = false := by simpa using e
      clear e
      have HR := Lib.hid (H.out.setL HX.out { x with st := 1 } (j := 6) (by decide) (.int .i64 1) rfl rfl rfl)
      go_wp2_with fail
      go_ret
      exact ⟨⟨_, rfl⟩, _, _, ND, _, S, HR.out, Td.set _ (.inr (.inl rfl)) _, fun g e => .inl e, by rw [List.length_set]; omega⟩
    · have t1 : (x.st != 0) = true := by simpa using e
      clear e
      go_wp2_with fail
      go_ret
      exact ⟨⟨_, rfl⟩, ROut.same H.out⟩
end
end Go.Proofs.Ytjolkcomlindhaa
