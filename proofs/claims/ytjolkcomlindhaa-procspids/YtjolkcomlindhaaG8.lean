/- A table: Spawn. -/
import Derived.Test.YtjolkcomlindhaaG7
namespace Go.Proofs.Ytjolkcomlindhaa
open Go.RowKit Go.Shelf Go.Maps Go.Sort

theorem undrew2 {B : Nat} {a w : World} (h : Below B a.drew w) : Below B a w := ⟨h.os, h.tape, h.output, h.size, h.block⟩
theorem eqm83 (w : World) (r : Option Nat) : (binOp .eql 83 (.map r) (.map none)).run Try.prog w = .ok (.bool r.isNone) w := run_eql_map_nil w _ _ _ r Try.underlying83
attribute [local go_sem] eqm83
/-- A table whose process is about to be laid. -/
structure Sw (W : World) (p bx b k : Nat) (N1 : Int) (T : List Pr) (j e s r : Int) (A : Option Addr) (n cap : Nat) (zs : List Int) : Prop where
  blk : Bk W p 85 #[.int .i64 N1, .map (some b)]
  box : Bk W bx 61 (tkC N1 j e s r (.slice A n cap) 0 0)
  own : ∃ D, W.ownsMap Try.prog 3 ptE b k D ∧ Says D rdP (fun n => (lookP T n).map (fun x => some x.b))
  procs : ∀ x ∈ T, PAt W x
  ints : IntsAt W A zs
section
variable {w W W' : World} {p bx b k : Nat} {N1 : Int} {T : List Pr} {j e s r : Int} {A : Option Addr} {n cap : Nat} {zs : List Int} {m : Option Nat}
theorem Sw.next (h : Sw W p bx b k N1 T j e s r A n cap zs) (hb : Below W.heap.size W W') : Sw W' p bx b k N1 T j e s r A n cap zs := by
  obtain ⟨D, h1, h2⟩ := h.own
  exact ⟨h.blk.next hb, h.box.next hb, ⟨D, h1.kept (only_of_below hb) (by simp), h2⟩, fun x hx => (h.procs x hx).next hb, h.ints.next hb⟩
theorem Sw.cells (h : Sw W p bx b k N1 T j e s r A n cap zs) : W.cell? ⟨p, 1, none⟩ = some (.map (some b)) ∧ W.cell? ⟨bx, 0, none⟩ = some (.int .i64 N1) ∧ W.cell? ⟨bx, 1, none⟩ = some (.int .i64 j) ∧ W.cell? ⟨bx, 2, none⟩ = some (.int .i64 e) ∧ W.cell? ⟨bx, 3, none⟩ = some (.int .i64 s) ∧ W.cell? ⟨bx, 4, none⟩ = some (.int .i64 r) ∧ W.cell? ⟨bx, 5, none⟩ = some (.slice A n cap) ∧ W.cell? ⟨bx, 6, none⟩ = some (.int .i64 0) ∧ W.cell? ⟨bx, 7, none⟩ = some (.int .i64 0) :=
  ⟨h.blk.cell 1 _ rfl, h.box.cell 0 _ rfl, h.box.cell 1 _ rfl, h.box.cell 2 _ rfl, h.box.cell 3 _ rfl, h.box.cell 4 _ rfl, h.box.cell 5 _ rfl, h.box.cell 6 _ rfl, h.box.cell 7 _ rfl⟩
theorem lookP_snoc {T : List Pr} {x : Pr} (h : ∀ y ∈ T, y.pid ≠ x.pid) (n : Int) : lookP (T ++ [x]) n = if n = x.pid then some x else lookP T n := by
  induction T with
  | nil =>
    simp only [List.nil_append, lookP]
    by_cases e : n = x.pid
    · rw [if_pos e.symm, if_pos e]
    · rw [if_neg (fun q => e q.symm), if_neg e]
  | cons y t ih =>
    rw [List.cons_append]
    unfold lookP
    have hy := h y List.mem_cons_self
    rw [ih fun z hz => h z (List.mem_cons_of_mem _ hz)]
    by_cases e : n = x.pid
    · rw [if_neg (by omega), if_pos e, if_pos e]
    · rw [if_neg e, if_neg e]
/-- The process is laid. -/
theorem Sw.laid {w7 w8 : World} {A' : Option Addr} {cap' : Nat} {D : DataW Unit} {N : Int} {x : Pr} (h : Sw w7 p bx b k N1 T j e s r A n cap zs) (hn : zs.length = n) (hl : n ≤ 1000) (hcs : Cs w7 A' zs)
    (hS : Says D rdP (fun n => (lookP T n).map (fun x => some x.b))) (hx : x = ⟨N1, j, e, s, r, 0, 0, 0, A', cap', zs, w7.heap.size⟩)
    (ho : w8.ownsMap Try.prog 3 ptE b (k + 1) (D.put (ky N1) (rdP (some w7.heap.size)))) (hg0 : (w7.alloc (.cells #[.int .i64 N1, .int .i64 j, .int .i64 e, .int .i64 s, .int .i64 r, .slice A' n cap', .int .i64 0, .int .i64 0, .int .i64 0] 93)).grownBy w8 (some b))
    (up : T.Pairwise fun a b => a.pid < b.pid) (ap : T.Pairwise fun a b => a.b ≠ b.b) (pids : ∀ x ∈ T, 1 ≤ x.pid ∧ x.pid ≤ N) (e1 : N1 = N + 1) (few : 0 ≤ N ∧ N < 1000) :
    TbAt w8 p (some b) (k + 1) N1 (T ++ [x]) := by
  have hg : (w7.alloc (.cells x.cells 93)).grownBy w8 (some b) := by rw [hx]; subst hn; exact hg0
  have hb := below_alloc w7 (.cells x.cells 93)
  have h1 := h.next hb
  obtain ⟨D1, o1, _⟩ := h1.own
  have kp : ∀ {g : Nat} {t : TypeId} {cs : Array Value}, Bk (w7.alloc (.cells x.cells 93)) g t cs → Bk w8 g t cs := fun {g t cs} q => q.grown hg (not_map q o1)
  have kx : Bk (w7.alloc (.cells x.cells 93)) w7.heap.size 93 x.cells := Bk.new _ _ _
  have csk : ∀ {B : Option Addr} {ys : List Int}, Cs w7 B ys → Cs w8 B ys := fun {B ys} q => by
    have q1 := q.next hb
    have hblk : ∀ ad, B = some ad → w8.heap[ad.block]? = (w7.alloc (.cells x.cells 93)).heap[ad.block]? := fun ad e => by
      obtain ⟨cur, hc⟩ := q1.cells ad e
      have hk : Bk (w7.alloc (.cells x.cells 93)) ad.block 3 cur := hc
      rw [hc]; exact kp hk
    refine ⟨?_, fun ad e => ?_⟩
    · rcases q1.ints with e | ⟨ad, e, h1, h2⟩
      · exact .inl e
      · refine .inr ⟨ad, e, Nat.lt_of_lt_of_le h1 hg.size, fun j hj => ?_⟩
        rw [← h2 j hj]
        simp only [World.cell?, block_add, hblk ad e]
    · obtain ⟨cur, hc⟩ := q1.cells ad e
      exact ⟨cur, (hblk ad e).trans hc⟩
  have hpx : x.pid = N1 := by rw [hx]
  have hbx : x.b = w7.heap.size := by rw [hx]
  refine ⟨kp h1.blk, (fun q => by cases q), fun b' q => ?_, fun y hy => ?_, ?_, ?_, fun y hy => ?_, by omega⟩
  · cases q
    refine ⟨_, ho, (hS.put N1 _ ho.isMap).congr fun q => ?_⟩
    rw [lookP_snoc (fun y hy => by have := pids y hy; omega), hpx]
    by_cases eq : q = N1
    · rw [if_pos eq, if_pos eq, ← hbx]; rfl
    · rw [if_neg eq, if_neg eq]
  · rcases List.mem_append.1 hy with q | q
    · have q := h.procs y q
      exact ⟨kp (q.blk.next hb), csk q.cs, q.len⟩
    · have q : y = x := by simpa using q
      subst q
      refine ⟨by rw [hbx]; exact kp kx, ?_, ?_⟩
      · rw [hx]; exact csk hcs
      · rw [hx]; show zs.length ≤ 1000; omega
  · rw [List.pairwise_append]
    refine ⟨up, List.pairwise_singleton _ _, fun a ha c hc => ?_⟩
    have q : c = x := by simpa using hc
    have := pids a ha
    rw [q, hpx]; omega
  · rw [List.pairwise_append]
    refine ⟨ap, List.pairwise_singleton _ _, fun a ha c hc => ?_⟩
    have q : c = x := by simpa using hc
    have := (h.procs a ha).blk.lt
    rw [q, hbx]; omega
  · rcases List.mem_append.1 hy with q | q
    · have := pids y q; omega
    · have q : y = x := by simpa using q
      rw [q, hpx]; omega
end
end Go.Proofs.Ytjolkcomlindhaa
