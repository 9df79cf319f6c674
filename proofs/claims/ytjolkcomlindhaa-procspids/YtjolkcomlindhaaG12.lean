/- A table of one's own; live. -/
import Derived.Test.YtjolkcomlindhaaG11
namespace Go.Proofs.Ytjolkcomlindhaa
open Go.RowKit Go.Shelf Go.Maps Go.Sort

/-- A table that was made behind world w, which lies as it did. -/
structure Lt (w V : World) (p : Nat) (m : Option Nat) (k : Nat) (N : Int) (T : List Pr) : Prop where
  tab : TbAt V p m k N T
  low : Below w.heap.size w V
  hp : w.heap.size ≤ p
  hm : ∀ b, m = some b → w.heap.size ≤ b
  hb : ∀ x ∈ T, w.heap.size ≤ x.b
section
variable {w V V' : World} {p k k' : Nat} {m m' : Option Nat} {N N' : Int} {T T' : List Pr}
theorem Lt.next (h : Lt w V p m k N T) (hb : Below V.heap.size V V') : Lt w V' p m k N T := ⟨h.tab.next hb, bmore h.low hb, h.hp, h.hm, h.hb⟩
theorem Lt.turn (h : Lt w V p m k N T) (hT : TbAt V' p m' k' N' T') (ht : Tt V V' p m T) (hm : ∀ b, m' = some b → w.heap.size ≤ b) (hb : ∀ x ∈ T', w.heap.size ≤ x.b) : Lt w V' p m' k' N' T' := by
  have := h.low.size
  exact ⟨hT, h.low.trans ⟨ht.os, ht.tape, ht.output, ht.size, fun i hi => ht.block i (by omega) (by have := h.hp; omega) (fun e => by have := h.hm i e; omega) (fun x hx e => by have := h.hb x hx; omega)⟩, h.hp, hm, hb⟩
theorem upd_b {x x' : Pr} (hx : lookP T x'.pid = some x) (e : x'.b = x.b) {B : Nat} (hb : ∀ x ∈ T, B ≤ x.b) : ∀ y ∈ updP T x', B ≤ y.b := fun y hy => by
  rcases mem_upd hy with rfl | ⟨h1, _⟩
  · rw [e]; exact hb x (lookP_mem hx).1
  · exact hb y h1
end
/-- Good cores. -/
theorem of_good {w : World} {A : Option Addr} {xs : List Nat} {cap : Nat} (hz : IntsAt w A (xs.map fun x : Nat => (x : Int))) (hx : ∀ x ∈ xs, x < 256) (hn : xs.Nodup) (hl : xs.length ≤ 1000) : OfSays w A xs.length cap 0 := fun V hb => by
  have hA : Mo.NatsAt V V.heap.size A xs := by
    rcases hz.next hb with e | ⟨ad, e, h1, h2⟩
    · exact .inl (by simpa using e)
    · refine .inr ⟨ad, e, h1, fun j hj => ?_⟩
      rw [h2 j (by simpa using hj)]
      simp [List.getD, hj, Mo.Mk.nth]
  obtain ⟨a, b, c, d, e⟩ := vs4 (Mo.Mk.ofL_W4 hx)
  refine ⟨a, b, c, d, ?_⟩
  have := Mo.of_ok A cap xs V hA hx hn (by unfold maxLen; omega)
  rw [e] at this
  exact this
section
variable {w V : World} {p k : Nat} {m : Option Nat} {N : Int} {T : List Pr}
theorem Bk.tt {V' : World} {g t : Nat} {cs : Array Value} (q : Bk V g t cs) (h : TbAt V p m k N T) (ht : Tt V V' p m T) (h1 : t ≠ 85) (h2 : t ≠ 93) : Bk V' g t cs :=
  (ht.block g q.lt (bk_ne q h.blk h1) (h.ne q) (fun x hx => (bk_ne q (h.procs x hx).blk h2).symm)).trans q
theorem lexit (h : Lt w V p m k N T) {n c : Int} (hn : wf n) (er : Int) (T' : List Pr) (e1 : exE T n c = er) (e2 : exT T n c = T') (hb : ∀ x ∈ T', w.heap.size ≤ x.b) : Calls Try.prog 42 #[.pointer (some ⟨p, 0, none⟩), .int .i64 n, .int .i64 c] V fun x V' => x = .returned (.int .i64 er) ∧ Lt w V' p m k N T' := by
  refine (exitT_any h.tab c hn).mono ?_
  rintro x V' ⟨rfl, h1, h2⟩
  rw [e1]
  rw [e2] at h1
  exact ⟨rfl, h.turn h1 h2 h.hm hb⟩
theorem lrel (h : Lt w V p m k N T) {n : Int} (hn : wf n) (er : Int) (T' : List Pr) (e1 : relE T n = er) (e2 : relT T n = T') (hb : ∀ x ∈ T', w.heap.size ≤ x.b) : Calls Try.prog 40 #[.pointer (some ⟨p, 0, none⟩), .int .i64 n] V fun x V' => x = .returned (.int .i64 er) ∧ Lt w V' p m k N T' := by
  refine (release_any h.tab hn).mono ?_
  rintro x V' ⟨rfl, h1, h2⟩
  rw [e1]
  rw [e2] at h1
  exact ⟨rfl, h.turn h1 h2 h.hm hb⟩
theorem lsig (h : Lt w V p m k N T) {n g : Int} (hn : wf n) (er : Int) (T' : List Pr) (e1 : sgE T n g = er) (e2 : sgT T n g = T') (hb : ∀ x ∈ T', w.heap.size ≤ x.b) : Calls Try.prog 41 #[.pointer (some ⟨p, 0, none⟩), .int .i64 n, .int .i64 g] V fun x V' => x = .returned (.int .i64 er) ∧ Lt w V' p m k N T' := by
  refine (signal_any h.tab g hn).mono ?_
  rintro x V' ⟨rfl, h1, h2⟩
  rw [e1]
  rw [e2] at h1
  exact ⟨rfl, h.turn h1 h2 h.hm hb⟩
theorem lreap (h : Lt w V p m k N T) {n : Int} (hn : wf n) (er : Int) (v : Value) (T' : List Pr) (e1 : rpE T n = er) (e2 : rpT T n = T') (e3 : rpV T n = v) (hb : ∀ x ∈ T', w.heap.size ≤ x.b) : Calls Try.prog 39 #[.pointer (some ⟨p, 0, none⟩), .int .i64 n] V fun x V' => x = .returned (.tuple #[v, .int .i64 er]) ∧ Lt w V' p m k N T' ∧ ∀ (g : Nat) (cs : Array Value), Bk V g 61 cs → Bk V' g 61 cs := by
  refine (reap_any h.tab hn).mono ?_
  rintro x V' ⟨rfl, h1, h2, _⟩
  rw [e1, e3]
  rw [e2] at h1
  exact ⟨rfl, h.turn h1 h2 h.hm hb, fun g cs q => q.tt h.tab h2 (by decide) (by decide)⟩
end
/-- The first two of live. -/
abbrev q1 (st code sig : Int) (A : Option Addr) (cap b : Nat) : Pr := ⟨1, 3, 0, 0, 0, st, code, sig, A, cap, [1, 2], b⟩
abbrev q2 (st code sig : Int) (A : Option Addr) (cap b : Nat) : Pr := ⟨2, 4, 0, 0, 0, st, code, sig, A, cap, [3], b⟩
theorem hb2 {B : Nat} {x y : Pr} (h1 : B ≤ x.b) (h2 : B ≤ y.b) : ∀ z ∈ [x, y], B ≤ z.b := fun z hz => by
  rcases List.mem_cons.1 hz with e | e
  · rw [e]; exact h1
  · have e : z = y := by simpa using e
    rw [e]; exact h2
theorem hb1 {B : Nat} {x : Pr} (h1 : B ≤ x.b) : ∀ z ∈ [x], B ≤ z.b := fun z hz => by
  have e : z = x := by simpa using hz
  rw [e]; exact h1
set_option maxRecDepth 100000 in
set_option maxHeartbeats 2000000 in
theorem plive_any (w : World) : Calls Try.prog 33 #[] w fun e w' => e = .returned (.bool true) ∧ Below w.heap.size w w' := by
  go_enter Try.func33, Try.ntmps33
  go_wp2_with fail
  refine (tnew_any w).mono ?_
  rintro x w1 ⟨p, rfl, hp, hB, hb⟩
  have st : Lt w w1 p none 0 0 [] := ⟨hB, hb, hp, (fun b e => by cases e), (fun x hx => by cases hx)⟩
  clear hB hb
  have la := below_alloc w1 (.cells #[.int .i64 1, .int .i64 2] 3)
  have kb := Bk.new w1 3 #[.int .i64 1, .int .i64 2]
  have hz : IntsAt (w1.alloc (.cells #[.int .i64 1, .int .i64 2] 3)) (some ⟨w1.heap.size, 0, none⟩) [1, 2] := by
    refine .inr ⟨_, rfl, kb.lt, ?_⟩
    intro j hj
    match j, hj with
    | 0, _ => exact kb.cell 0 _ rfl
    | 1, _ => exact kb.cell 1 _ rfl
  have hpl := st.tab.blk.lt
  replace st := st.next la
  have K := Lib.hid (spawn_none st.tab (by omega) (by omega) (by decide) 0 3 0 0 0 0 0 (some ⟨w1.heap.size, 0, none⟩) 2 2 [1, 2] hz rfl (by rintro ad ⟨⟩; show w1.heap.size ≠ p; omega) (of_good (xs := [1, 2]) hz (by decide) (by decide) (by decide)) (by omega) (by decide))
  clear la kb hz hpl
  go_wp2_with fail
  refine K.out.mono ?_
  rintro x w2 ⟨A1, c1, b1, b, rfl, hT, hTt, hb1', hbb⟩
  have hsz := st.low.size
  have hB1 : w.heap.size ≤ b1 := by omega
  have st1 : Lt w w2 p (some b) 1 1 [q1 0 0 0 A1 c1 b1] := st.turn hT hTt (by rintro b' ⟨⟩; omega) (hb1 hB1)
  clear st K hT hTt hb1' hbb hsz
  have la := below_alloc w2 (.cells #[.int .i64 3] 3)
  have kb := Bk.new w2 3 #[.int .i64 3]
  have hz : IntsAt (w2.alloc (.cells #[.int .i64 3] 3)) (some ⟨w2.heap.size, 0, none⟩) [3] := by
    refine .inr ⟨_, rfl, kb.lt, ?_⟩
    intro j hj
    match j, hj with
    | 0, _ => exact kb.cell 0 _ rfl
  have hpl := st1.tab.blk.lt
  replace st1 := st1.next la
  have K := Lib.hid (spawn_some st1.tab (by omega) (by omega) (by simp) 77 4 0 0 0 2 9 (some ⟨w2.heap.size, 0, none⟩) 1 1 [3] hz rfl (by rintro ad ⟨⟩; show w2.heap.size ≠ p; omega) (of_good (xs := [3]) hz (by decide) (by decide) (by decide)) (by omega) (by decide))
  clear la kb hz hpl
  go_wp2_with fail
  refine K.out.mono ?_
  rintro x w3 ⟨A2, c2, b2, rfl, hT, hTt, hb2'⟩
  have hsz := st1.low.size
  have hB2 : w.heap.size ≤ b2 := by omega
  have st : Lt w w3 p (some b) 2 2 [q1 0 0 0 A1 c1 b1, q2 0 0 0 A2 c2 b2] := st1.turn hT hTt st1.hm (hb2 hB1 hB2)
  clear st1 K hT hTt hb2' hsz
  have K := Lib.hid (spawn_no st.tab 0 3 0 0 0 0 0 0 none 0 0 (of_good (xs := []) (.inl rfl) (by decide) (by decide) (by decide)) (by omega) (by decide))
  go_wp2_with fail
  refine K.out.mono ?_
  rintro x w4 ⟨rfl, hb⟩
  replace st := st.next hb
  clear hb K
  have K := Lib.hid (lexit st (n := 1) (c := 3) rfl 14 [q1 0 0 0 A1 c1 b1, q2 0 0 0 A2 c2 b2] rfl rfl (hb2 hB1 hB2))
  go_wp2_with fail
  refine K.out.mono ?_
  rintro x w5 ⟨rfl, st⟩
  clear K
  have K := Lib.hid (lrel st (n := 1) rfl 0 [q1 1 0 0 A1 c1 b1, q2 0 0 0 A2 c2 b2] rfl rfl (hb2 hB1 hB2))
  go_wp2_with fail
  refine K.out.mono ?_
  rintro x w6 ⟨rfl, st⟩
  clear K
  have K := Lib.hid (lsig st (n := 1) (g := 15) rfl 0 [q1 1 0 15 A1 c1 b1, q2 0 0 0 A2 c2 b2] rfl rfl (hb2 hB1 hB2))
  go_wp2_with fail
  refine K.out.mono ?_
  rintro x w7 ⟨rfl, st⟩
  clear K
  have K := Lib.hid (lexit st (n := 1) (c := 3) rfl 0 [q1 2 3 15 A1 c1 b1, q2 0 0 0 A2 c2 b2] rfl rfl (hb2 hB1 hB2))
  go_wp2_with fail
  refine K.out.mono ?_
  rintro x w8 ⟨rfl, st⟩
  clear K
  have K := Lib.hid (lsig st (n := 2) (g := 9) rfl 0 [q1 2 3 15 A1 c1 b1, q2 2 137 9 A2 c2 b2] rfl rfl (hb2 hB1 hB2))
  go_wp2_with fail
  refine K.out.mono ?_
  rintro x w9 ⟨rfl, st⟩
  clear K
  have K := Lib.hid (lreap st (n := 1) rfl 0 (tkV 1 3 0 0 0 (.slice A1 2 c1) 2 3) [q2 2 137 9 A2 c2 b2] rfl rfl rfl (hb1 hB2))
  go_wp2_with fail
  refine K.out.mono ?_
  rintro x w10 ⟨rfl, st, -⟩
  clear K
  have k1 := Bk.new w10 61 (tkC 1 3 0 0 0 (.slice A1 2 c1) 2 3)
  replace st := st.next (below_alloc w10 (.cells (tkC 1 3 0 0 0 (.slice A1 2 c1) 2 3) 61))
  have K := Lib.hid (lreap st (n := 2) rfl 0 (tkV 2 4 0 0 0 (.slice A2 1 c2) 2 137) [] rfl rfl rfl (fun x hx => by cases hx))
  go_wp2_with fail
  refine K.out.mono ?_
  rintro x w11 ⟨rfl, st, hk⟩
  replace k1 := hk _ _ k1
  clear K hk
  have lb := below_alloc w11 (.cells (tkC 2 4 0 0 0 (.slice A2 1 c2) 2 137) 61)
  have k2 := Bk.new w11 61 (tkC 2 4 0 0 0 (.slice A2 1 c2) 2 137)
  replace k1 := k1.next lb
  replace st := st.next lb
  clear lb
  have x7 := k1.cell 7 _ rfl
  have x1 := k1.cell 1 _ rfl
  have x5 := k1.cell 5 _ rfl
  have y7 := k2.cell 7 _ rfl
  have K := Lib.hid (list_empty st.tab)
  clear k1 k2
  go_wp2_with fail
  refine K.out.mono ?_
  rintro x w12 ⟨rfl, hb⟩
  go_wp2_with fail
  go_ret
  exact ⟨rfl, bmore st.low hb⟩
end Go.Proofs.Ytjolkcomlindhaa
