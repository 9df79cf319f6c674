/- A table of one's own; live. -/
import Derived.Test.YtjolkcomlindhaaGG9xG10xG11
import Derived.Test.YtjolkcomlindhaaGMW4xG1xG2
namespace Go.Proofs.Ytjolkcomlindhaa
open Go.RowKit Go.Shelf Go.Maps Go.Sort

/-- A table that was made behind world w, which lies as it did. -/
structure Lt (w V : World) (p : Nat) (m : Option Nat) (k : Nat) (N : Int) (T : List Pr) : Prop where
  tab : TbAt V p m k N T
  low : Below w.heap.size w V
  hp : w.heap.size ≤ p
  hm : ∀ b, m = some b → w.heap.size ≤ b
  hb : ∀ x ∈ T, w.heap.size ≤ x.b
section
variable {w V V' : World} {p k k' : Nat} {m m' : Option Nat} {N N' : Int} {T T' : List Pr}
theorem Lt.next (h : Lt w V p m k N T) (hb : Below V.heap.size V V') : Lt w V' p m k N T := ⟨h.tab.next hb, bmore h.low hb, h.hp, h.hm, h.hb⟩
theorem Lt.turn (h : Lt w V p m k N T) (hT : TbAt V' p m' k' N' T') (ht : Tt V V' p m T) (hm : ∀ b, m' = some b → w.heap.size ≤ b) (hb : ∀ x ∈ T', w.heap.size ≤ x.b) : Lt w V' p m' k' N' T' := by
  have := h.low.size
  exact ⟨hT, h.low.trans ⟨ht.os, ht.tape, ht.output, ht.size, fun i hi => ht.block i (by omega) (by have := h.hp; omega) (fun e => by have := h.hm i e; omega) (fun x hx e => by have := h.hb x hx; omega)⟩, h.hp, hm, hb⟩
theorem upd_b {x x' : Pr} (hx : lookP T x'.pid = some x) (e : x'.b = x.b) {B : Nat} (hb : ∀ x ∈ T, B ≤ x.b) : ∀ y ∈ updP T x', B ≤ y.b := fun y hy => by
  rcases mem_upd hy with rfl | ⟨h1, _⟩
  · rw [e]; exact hb x (lookP_mem hx).1
  · exact hb y h1
end
/-- Good cores. -/
theorem of_good {w : World} {A : Option Addr} {xs : List Nat} {cap : Nat} (hz : IntsAt w A (xs.map fun x : Nat => (x : Int))) (hx : ∀ x ∈ xs, x < 256) (hn : xs.Nodup) (hl : xs.length ≤ 1000) : OfSays w A xs.length cap 0 := fun V hb => by
  have hA : Mo.NatsAt V V.heap.size A xs := by
    rcases hz.next hb with e | ⟨ad, e, h1, h2⟩
    · exact .inl (by simpa using e)
    · refine .inr ⟨ad, e, h1, fun j hj => ?_⟩
      rw [h2 j (by simpa using hj)]
      simp [List.getD, hj, Mo.Mk.nth]
  obtain ⟨a, b, c, d, e⟩ := vs4 (Mo.Mk.ofL_W4 hx)
  refine ⟨a, b, c, d, ?_⟩
  have := Mo.of_ok A cap xs V hA hx hn (by unfold maxLen; omega)
  rw [e] at this
  exact this
section
variable {w V : World} {p k : Nat} {m : Option Nat} {N : Int} {T : List Pr}
theorem Bk.tt {V' : World} {g t : Nat} {cs : Array Value} (q : Bk V g t cs) (h : TbAt V p m k N T) (ht : Tt V V' p m T) (h1 : t ≠ 85) (h2 : t ≠ 93) : Bk V' g t cs :=
  (ht.block g q.lt (bk_ne q h.blk h1) (h.ne q) (fun x hx => (bk_ne q (h.procs x hx).blk h2).symm)).trans q
theorem lexit (h : Lt w V p m k N T) {n c : Int} (hn : wf n) (er : Int) (T' : List Pr) (e1 : exE T n c = er) (e2 : exT T n c = T') (hb : ∀ x ∈ T', w.heap.size ≤ x.b) : Calls Try.prog 42 #[.pointer (some ⟨p, 0, none⟩), .int .i64 n, .int .i64 c] V fun x V' => x = .returned (.int .i64 er) ∧ Lt w V' p m k N T' := by
  refine (exitT_any h.tab c hn).mono ?_
  rintro x V' ⟨rfl, h1, h2⟩
  rw [e1]
  rw [e2] at h1
  exact ⟨rfl, h.turn h1 h2 h.hm hb⟩
theorem lrel (h : Lt w V p m k N T) {n : Int} (hn : wf n) (er : Int) (T' : List Pr) (e1 : relE T n = er) (e2 : relT T n = T') (hb : ∀ x ∈ T', w.heap.size ≤ x.b) : Calls Try.prog 40 #[.pointer (some ⟨p, 0, none⟩), .int .i64 n] V fun x V' => x = .returned (.int .i64 er) ∧ Lt w V' p m k N T' := by
  refine (release_any h.tab hn).mono ?_
  rintro x V' ⟨rfl, h1, h2⟩
  rw [e1]
  rw [e2] at h1
  exact ⟨rfl, h.turn h1 h2 h.hm hb⟩
theorem lsig (h : Lt w V p m k N T) {n g : Int} (hn : wf n) (er : Int) (T' : List Pr) (e1 : sgE T n g = er) (e2 : sgT T n g = T') (hb : ∀ x ∈ T', w.heap.size ≤ x.b) : Calls Try.prog 41 #[.pointer (some ⟨p, 0, none⟩), .int .i64 n, .int .i64 g] V fun x V' => x = .returned (.int .i64 er) ∧ Lt w V' p m k N T' := by
  refine (signal_any h.tab g hn).mono ?_
  rintro x V' ⟨rfl, h1, h2⟩
  rw [e1]
  rw [e2] at h1
  exact ⟨rfl, h.turn h1 h2 h.hm hb⟩
theorem lreap (h : Lt w V p m k N T) {n : Int} (hn : wf n) (er : Int) (v : Value) (T' : List Pr) (e1 : rpE T n = er) (e2 : rpT T n = T') (e3 : rpV T n = v) (hb : ∀ x ∈ T', w.heap.size ≤ x.b) : Calls Try.prog 39 #[.pointer (some ⟨p, 0, none⟩), .int .i64 n] V fun x V' => x = .returned (.tuple #[v, .int .i64 er]) ∧ Lt w V' p m k N T' ∧ ∀ (g : Nat) (cs : Array Value), Bk V g 61 cs → Bk V' g 61 cs := by
  refine (reap_any h.tab hn).mono ?_
  rintro x V' ⟨rfl, h1, h2, _⟩
  rw [e1, e3]
  rw [e2] at h1
  exact ⟨rfl, h.turn h1 h2 h.hm hb, fun g cs q => q.tt h.tab h2 (by decide) (by decide)⟩
end
/-- The first two of live. -/
abbrev q1 (st code sig : Int) (A : Option Addr) (cap b : Nat) : Pr := ⟨1, 3, 0, 0, 0, st, code, sig, A, cap, [1, 2], b⟩
abbrev q2 (st code sig : Int) (A : Option Addr) (cap b : Nat) : Pr := ⟨2, 4, 0, 0, 0, st, code, sig, A, cap, [3], b⟩
theorem hb2 {B : Nat} {x y : Pr} (h1 : B ≤ x.b) (h2 : B ≤ y.b) : ∀ z ∈ [x, y], B ≤ z.b := fun z hz => by
  rcases List.mem_cons.1 hz with e | e
  · rw [e]; exact h1
  · have e : z = y := by simpa using e
    rw [e]; exact h2
theorem hb1 {B : Nat} {x : Pr} (h1 : B ≤ x.b) : ∀ z ∈ [x], B ≤ z.b := fun z hz => by
  have e : z = x := by simpa using hz
  rw [e]; exact h1
set_option maxRecDepth 100000 in
set_option maxHeartbeats 2000000 in
theorem plive_any (w : World) : Calls Try.prog 33 #[] w fun e w' => e = .returned (.bool true) ∧ Below w.heap.size w w' := by
  go_enter Try.func33, Try.ntmps33
  go_wp2_with fail
  refine (tnew_any w).mono ?_
  rintro x w1 ⟨p, rfl, hp, hB, hb⟩
  have st : Lt w w1 p none 0 0 [] := ⟨hB, hb, hp, (fun b e => by cases e), (fun x hx => by cases hx)⟩
  clear hB hb
  have la := below_alloc w1 (.cells #[.int .i64 1, .int .i64 2] 3)
  have kb := Bk.new w1 3 #[.int .i64 1, .int .i64 2]
  have hz : IntsAt (w1.alloc (.cells #[.int .i64 1, .int .i64 2] 3)) (some ⟨w1.heap.size, 0, none⟩) [1, 2] := by
    refine .inr ⟨_, rfl, kb.lt, ?_⟩
    intro j hj
    match j, hj with
    | 0, _ => exact kb.cell 0 _ rfl
    | 1, _ => exact kb.cell 1 _ rfl
  have hpl := st.tab.blk.lt
  replace st := st.next la
  have K := Lib.hid (spawn_none st.tab (by omega) (by omega) (by decide) 0 3 0 0 0 0 0 (some ⟨w1.heap.size, 0, none⟩) 2 2 [1, 2] hz rfl (by rintro ad ⟨⟩; show w1.heap.size ≠ p; omega) (of_good (xs := [1, 2]) hz (by decide) (by decide) (by decide)) (by omega) (by decide))
  clear la kb hz hpl
  go_wp2_with fail
  refine K.out.mono ?_
  rintro x w2 ⟨A1, c1, b1, b, rfl, hT, hTt, _, hb1', hbb⟩
  have hsz := st.low.size
  have hB1 : w.heap.size ≤ b1 := by omega
  have st1 : Lt w w2 p (some b) 1 1 [q1 0 0 0 A1 c1 b1] := st.turn hT hTt (by rintro b' ⟨⟩; omega) (hb1 hB1)
  clear st K hT hTt hb1' hbb hsz
  have la := below_alloc w2 (.cells #[.int .i64 3] 3)
  have kb := Bk.new w2 3 #[.int .i64 3]
  have hz : IntsAt (w2.alloc (.cells #[.int .i64 3] 3)) (some ⟨w2.heap.size, 0, none⟩) [3] := by
    refine .inr ⟨_, rfl, kb.lt, ?_⟩
    intro j hj
    match j, hj with
    | 0, _ => exact kb.cell 0 _ rfl
  have hpl := st1.tab.blk.lt
  replace st1 := st1.next la
  have K := Lib.hid (spawn_some st1.tab (by omega) (by omega) (by simp) 77 4 0 0 0 2 9 (some ⟨w2.heap.size, 0, none⟩) 1 1 [3] hz rfl (by rintro ad ⟨⟩; show w2.heap.size ≠ p; omega) (of_good (xs := [3]) hz (by decide) (by decide) (by decide)) (by omega) (by decide))
  clear la kb hz hpl
  go_wp2_with fail
  refine K.out.mono ?_
  rintro x w3 ⟨A2, c2, b2, rfl, hT, hTt, _, hb2'⟩
  have hsz := st1.low.size
  have hB2 : w.heap.size ≤ b2 := by omega
  have st : Lt w w3 p (some b) 2 2 [q1 0 0 0 A1 c1 b1, q2 0 0 0 A2 c2 b2] := st1.turn hT hTt st1.hm (hb2 hB1 hB2)
  clear st1 K hT hTt hb2' hsz
  have K := Lib.hid (spawn_no st.tab 0 3 0 0 0 0 0 0 none 0 0 (of_good (xs := []) (.inl rfl) (by decide) (by decide) (by decide)) (by omega) (by decide))
  go_wp2_with fail
  refine K.out.mono ?_
  rintro x w4 ⟨rfl, hb⟩
  replace st := st.next hb
  clear hb K
  have K := Lib.hid (lexit st (n := 1) (c := 3) rfl 14 [q1 0 0 0 A1 c1 b1, q2 0 0 0 A2 c2 b2] rfl rfl (hb2 hB1 hB2))
  go_wp2_with fail
  refine K.out.mono ?_
  rintro x w5 ⟨rfl, st⟩
  clear K
  have K := Lib.hid (lrel st (n := 1) rfl 0 [q1 1 0 0 A1 c1 b1, q2 0 0 0 A2 c2 b2] rfl rfl (hb2 hB1 hB2))
  go_wp2_with fail
  refine K.out.mono ?_
  rintro x w6 ⟨rfl, st⟩
  clear K
  have K := Lib.hid (lsig st (n := 1) (g := 15) rfl 0 [q1 1 0 15 A1 c1 b1, q2 0 0 0 A2 c2 b2] rfl rfl (hb2 hB1 hB2))
  go_wp2_with fail
  refine K.out.mono ?_
  rintro x w7 ⟨rfl, st⟩
  clear K
  have K := Lib.hid (lexit st (n := 1) (c := 3) rfl 0 [q1 2 3 15 A1 c1 b1, q2 0 0 0 A2 c2 b2] rfl rfl (hb2 hB1 hB2))
  go_wp2_with fail
  refine K.out.mono ?_
  rintro x w8 ⟨rfl, st⟩
  clear K
  have K := Lib.hid (lsig st (n := 2) (g := 9) rfl 0 [q1 2 3 15 A1 c1 b1, q2 2 137 9 A2 c2 b2] rfl rfl (hb2 hB1 hB2))
  go_wp2_with fail
  refine K.out.mono ?_
  rintro x w9 ⟨rfl, st⟩
  clear K
  have K := Lib.hid (lreap st (n := 1) rfl 0 (tkV 1 3 0 0 0 (.slice A1 2 c1) 2 3) [q2 2 137 9 A2 c2 b2] rfl rfl rfl (hb1 hB2))
  go_wp2_with fail
  refine K.out.mono ?_
  rintro x w10 ⟨rfl, st, -⟩
  clear K
  have k1 := Bk.new w10 61 (tkC 1 3 0 0 0 (.slice A1 2 c1) 2 3)
  replace st := st.next (below_alloc w10 (.cells (tkC 1 3 0 0 0 (.slice A1 2 c1) 2 3) 61))
  have K := Lib.hid (lreap st (n := 2) rfl 0 (tkV 2 4 0 0 0 (.slice A2 1 c2) 2 137) [] rfl rfl rfl (fun x hx => by cases hx))
  go_wp2_with fail
  refine K.out.mono ?_
  rintro x w11 ⟨rfl, st, hk⟩
  replace k1 := hk _ _ k1
  clear K hk
  have lb := below_alloc w11 (.cells (tkC 2 4 0 0 0 (.slice A2 1 c2) 2 137) 61)
  have k2 := Bk.new w11 61 (tkC 2 4 0 0 0 (.slice A2 1 c2) 2 137)
  replace k1 := k1.next lb
  replace st := st.next lb
  clear lb
  have x7 := k1.cell 7 _ rfl
  have x1 := k1.cell 1 _ rfl
  have x5 := k1.cell 5 _ rfl
  have y7 := k2.cell 7 _ rfl
  have K := Lib.hid (list_empty st.tab)
  clear k1 k2
  go_wp2_with fail
  refine K.out.mono ?_
  rintro x w12 ⟨rfl, hb⟩
  go_wp2_with fail
  go_ret
  exact ⟨rfl, bmore st.low hb⟩
end Go.Proofs.Ytjolkcomlindhaa
/- Of, and the document's, of any ints. -/
namespace Go.Proofs.Ytjolkcomlindhaa.Mo
open Go.RowKit

/-- A slice of ints, as its numbers. -/
def IntsAt (w : World) (B : Nat) (A : Option Addr) (zs : List Int) : Prop := zs = [] ∨ ∃ ad, A = some ad ∧ ad.block < B ∧ ∀ j, j < zs.length → w.cell? (ad.add j) = some (.int .i64 (zs.getD j 0))
def Good (zs : List Int) : Prop := (∀ z ∈ zs, 0 ≤ z ∧ z < 256) ∧ zs.Nodup
def toN (zs : List Int) : List Nat := zs.map Int.toNat
theorem toN_len (zs : List Int) : (toN zs).length = zs.length := by simp [toN]
theorem toN_lt {zs : List Int} (h : Good zs) : ∀ x ∈ toN zs, x < 256 := by
  intro x hx
  obtain ⟨z, hz, rfl⟩ := List.mem_map.1 hx
  have := h.1 z hz
  omega
theorem toN_nodup {zs : List Int} (h : Good zs) : (toN zs).Nodup := by
  unfold toN
  rw [List.nodup_iff_pairwise_ne, List.pairwise_map]
  refine (List.nodup_iff_pairwise_ne.1 h.2).imp_of_mem ?_
  intro a b ha hb hab e
  have h1 := h.1 a ha
  have h2 := h.1 b hb
  omega
theorem toN_mem {zs : List Int} (h : Good zs) {z : Int} (h0 : 0 ≤ z) : z.toNat ∈ toN zs ↔ z ∈ zs := by
  unfold toN
  rw [List.mem_map]
  constructor
  · rintro ⟨y, hy, e⟩
    have := h.1 y hy
    obtain rfl : y = z := by omega
    exact hy
  · exact fun hz => ⟨z, hz, rfl⟩
theorem IntsAt.nats {w : World} {B : Nat} {A : Option Addr} {zs : List Int} (h : IntsAt w B A zs) {p : Nat} (hg : Good (zs.take p)) : NatsAt w B A (toN (zs.take p)) := by
  rcases h with rfl | ⟨ad, rfl, hb, hc⟩
  · exact .inl (by simp [toN])
  · refine .inr ⟨ad, rfl, hb, fun j hj => ?_⟩
    rw [toN_len, List.length_take] at hj
    rw [hc j (by omega)]
    have hj2 : j < (zs.take p).length := by rw [List.length_take]; omega
    have e1 : (zs.take p)[j] = zs.getD j 0 := by
      rw [List.getElem_take]
      simp [List.getD, (by omega : j < zs.length)]
    have hm : zs.getD j 0 ∈ zs.take p := by rw [← e1]; exact List.getElem_mem _
    have h2 := hg.1 _ hm
    have e2 : Mk.nth (toN (zs.take p)) j = (zs.getD j 0).toNat := by
      rw [Mk.nth_getElem?, toN, List.getElem?_map, List.getElem?_eq_getElem hj2, e1]
      rfl
    rw [e2]
    congr 2
    omega
theorem good_or (zs : List Int) : ∀ k, k ≤ zs.length → Good (zs.take k) ∨ ∃ p, p < k ∧ Good (zs.take p) ∧ (zs.getD p 0 < 0 ∨ 256 ≤ zs.getD p 0 ∨ (0 ≤ zs.getD p 0 ∧ zs.getD p 0 < 256 ∧ zs.getD p 0 ∈ zs.take p))
  | 0, _ => .inl ⟨by simp, by simp⟩
  | k + 1, hk => by
    rcases good_or zs k (by omega) with h | ⟨p, h1, h2, h3⟩
    · have e : zs.take (k + 1) = zs.take k ++ [zs.getD k 0] := by
        rw [List.take_add_one]
        simp [List.getD, (by omega : k < zs.length)]
      by_cases b1 : zs.getD k 0 < 0
      · exact .inr ⟨k, by omega, h, .inl b1⟩
      · by_cases b2 : 256 ≤ zs.getD k 0
        · exact .inr ⟨k, by omega, h, .inr (.inl b2)⟩
        · by_cases b3 : zs.getD k 0 ∈ zs.take k
          · exact .inr ⟨k, by omega, h, .inr (.inr ⟨by omega, by omega, b3⟩)⟩
          · refine .inl ⟨?_, ?_⟩
            · intro z hz
              rw [e, List.mem_append] at hz
              rcases hz with hz | hz
              · exact h.1 z hz
              · rw [List.mem_singleton] at hz
                subst hz
                omega
            · rw [e, List.nodup_append]
              refine ⟨h.2, by simp, fun a ha b hb => ?_⟩
              rw [List.mem_singleton] at hb
              subst hb
              rintro rfl
              exact b3 ha
    · exact .inr ⟨p, by omega, h2, h3⟩
theorem natsIn {w : World} {A : Option Addr} {xs : List Nat} (h : NatsAt w w.heap.size A xs) (i : In w.heap.size w) : NatsAt i.val i.val.heap.size A xs := (h.below i.ok).more i.ok.size

set_option maxRecDepth 100000 in
set_option maxHeartbeats 400000 in
theorem of_bad (ad : Addr) (cap p n : Nat) (z : Int) (xs : List Nat) (w : World) (hA : NatsAt w w.heap.size (some ad) xs) (hb0 : ad.block < w.heap.size) (hz0 : w.cell? (ad.add p) = some (.int .i64 z)) (hx : ∀ x ∈ xs, x < 256) (hn : xs.Nodup) (hl : n ≤ maxLen) (hpn : p < n) (hxp : xs.length = p)
    (hd : z < 0 ∨ 256 ≤ z ∨ ∃ c : Nat, z = c ∧ c < 256 ∧ c ∈ xs) :
    Calls Try.prog 68 #[.slice (some ad) n cap] w fun e w' => e = .returned (.tuple #[.agg (vs .u64 Mk.zero), .int .i64 1]) ∧ Below w.heap.size w w' := by
  subst hxp
  have HX := Lib.hid hx
  have HN := Lib.hid hn
  have HD := Lib.hid hd
  have hzz := Lib.hid (info33' Mk.W4.zero)
  clear hx hn hd
  unfold maxLen at hl
  go_enter Try.func68, Try.ntmps68
  go_wp2_with fail
  go_loopw [9] (fun i wr => ∃ k : Nat, k ≤ xs.length ∧ i = .int .i64 k ∧ Row .u64 104 wr w.heap.size Mk.zero ∧ Row .u64 104 wr (w.heap.size + 1) (Mk.ofL (xs.take k)) ∧ Below w.heap.size w wr)
    (fun i _ => xs.length - (intOf i).toNat)
  case atStart =>
    refine ⟨0, by omega, rfl, (Row.new w .u64 104 Mk.zero _ rfl).alloc _, ?_, ((Below.refl _ _).alloc (Nat.le_refl _) _).alloc (by simp) _⟩
    have := Row.new (w.alloc (.cells (vs .u64 Mk.zero) 104)) .u64 104 Mk.zero _ rfl
    rw [size_alloc] at this
    exact this
  case round =>
    obtain ⟨k, hk, rfl, r0, r1, hb⟩ := hrel
    have i1 : (k : Int) < (n : Int) := by omega
    by_cases hlt : k < xs.length
    · obtain ⟨ad', e', hblk, hcell⟩ := (hA.below hb).at_ hlt
      cases e'
      have hw := Lib.hid (Mk.ofL_W4 (xs := xs.take k) (fun x hx => HX.out x (List.mem_of_mem_take hx)))
      have hz := Lib.hid (info33' hw.out)
      have hc := HX.out _ (nth_mem xs k hlt)
      have hw2 := Lib.hid (hw.out.wth hc)
      have HS : Hid (Mk.ofL (xs.take (k + 1)) = Mk.wth (Mk.ofL (xs.take k)) (Mk.nth xs k)) := by
        show _ = _; rw [take_snoc xs k hlt, Mk.ofL_snoc]
      have HF : Hid (Mk.hasB (Mk.ofL (xs.take k)) (Mk.nth xs k) = false) := by
        show _ = _
        rw [Mk.has_ofL (fun x hx => HX.out x (List.mem_of_mem_take hx))]
        simpa using nodup_take xs k hlt HN.out
      have hz2 := Lib.hid (info33' hw2.out)
      have hlen := Lib.hid (len_len hw.out hw2.out)
      generalize Mk.ofL (xs.take k) = m at *
      generalize Mk.nth xs k = c at *
      go_wp2_with (first | (refine load_w rfl 104 _ rfl (w.heap.size + 1) .u64 m rfl 104 _ r1 Try.underlying104 rfl hz.out ?_) | ((go_at_call 76; refine (isCore_yes _ _ (by omega) (by omega)).mono ?_); rintro e w' ⟨rfl, rfl⟩) | ((go_at_call 77; refine (has_in m c _ hw.out hc).mono ?_); rintro e w2 ⟨rfl, hb2⟩; rw [HF.out]; replace r0 := r0.below hb2 r0.lt; replace r1 := r1.below hb2 r1.lt; replace hb := bmore hb hb2; clear hb2) | ((go_at_call 78; refine (with_any m c _ hw.out hc).mono ?_); rintro e w2 ⟨rfl, hb2⟩; have r02 := r0.below hb2 r0.lt; have r12 := r1.below hb2 r1.lt; have hb22 := bmore hb hb2; clear hb2) | (refine store_law rfl 104 _ _ rfl (w.heap.size + 1) .u64 m (Mk.wth m c) rfl rfl 104 r12 hlen.out hz2.out ?_; intro w7 hw7))
      go_roundw
      case rel =>
        refine ⟨k + 1, by omega, by go_num, r02.hidOther hw7 (by omega), ?_, below_hidSet hb22 hw7 (by omega)⟩
        rw [HS.out]; exact r12.hidSet hw7
      case measure => simp [intOf]; omega
    · obtain rfl : k = xs.length := by omega
      have hcell : wr.cell? (ad.add xs.length) = some (.int .i64 z) := (hb.cell (by rw [block_add]; exact hb0)).trans hz0
      have hw := Lib.hid (Mk.ofL_W4 (xs := xs) HX.out)
      have hz := Lib.hid (info33' hw.out)
      have HO := Lib.hid (Mk.has_ofL HX.out)
      rw [List.take_length] at r1
      generalize Mk.ofL xs = m at *
      rcases HD.out with h0 | h0 | ⟨c, rfl, hc, hm⟩
      · have HC := Lib.hid (fun W => isCore_no z W (.inl h0))
        clear HD
        go_wp2_with (first | ((go_at_call 76; refine (HC.out _).mono ?_); rintro e w' ⟨rfl, rfl⟩) | (refine store_law rfl 104 _ _ rfl w.heap.size .u64 Mk.zero Mk.zero rfl rfl 104 r0 rfl hzz.out ?_; intro w7 hw7))
        exact bodyPost_ret (results_row_tmp rfl _ _ w.heap.size .u64 104 _ _ rfl (r0.hidSet hw7) Try.underlying104 rfl hzz.out) rfl ⟨rfl, below_hidSet hb hw7 (by omega)⟩
      · have HC := Lib.hid (fun W => isCore_no z W (.inr h0))
        clear HD
        go_wp2_with (first | ((go_at_call 76; refine (HC.out _).mono ?_); rintro e w' ⟨rfl, rfl⟩) | (refine store_law rfl 104 _ _ rfl w.heap.size .u64 Mk.zero Mk.zero rfl rfl 104 r0 rfl hzz.out ?_; intro w7 hw7))
        exact bodyPost_ret (results_row_tmp rfl _ _ w.heap.size .u64 104 _ _ rfl (r0.hidSet hw7) Try.underlying104 rfl hzz.out) rfl ⟨rfl, below_hidSet hb hw7 (by omega)⟩
      · have HF : Hid (Mk.hasB m c = true) := by
          show _ = _
          rw [HO.out c]
          exact decide_eq_true hm
        clear HD hm
        go_wp2_with (first | (refine load_w rfl 104 _ rfl (w.heap.size + 1) .u64 m rfl 104 _ r1 Try.underlying104 rfl hz.out ?_) | ((go_at_call 76; refine (isCore_yes _ _ (by omega) (by omega)).mono ?_); rintro e w' ⟨rfl, rfl⟩) | ((go_at_call 77; refine (has_in m c _ hw.out hc).mono ?_); rintro e w2 ⟨rfl, hb2⟩; rw [HF.out]; replace r0 := r0.below hb2 r0.lt; replace r1 := r1.below hb2 r1.lt; replace hb := bmore hb hb2; clear hb2) | (refine store_law rfl 104 _ _ rfl w.heap.size .u64 Mk.zero Mk.zero rfl rfl 104 r0 rfl hzz.out ?_; intro w7 hw7))
        exact bodyPost_ret (results_row_tmp rfl _ _ w.heap.size .u64 104 _ _ rfl (r0.hidSet hw7) Try.underlying104 rfl hzz.out) rfl ⟨rfl, below_hidSet hb hw7 (by omega)⟩
end Go.Proofs.Ytjolkcomlindhaa.Mo
/- mask.Of of any ints, as a table asks it. -/
namespace Go.Proofs.Ytjolkcomlindhaa
open Go.RowKit

open Classical in
/-- The error that mask.Of tells of these. -/
noncomputable def cE (zs : List Int) : Int := if Mo.Good zs then 0 else 1
theorem mo_ints {w : World} {A : Option Addr} {zs : List Int} (h : IntsAt w A zs) : Mo.IntsAt w w.heap.size A zs := h
theorem of_says {w : World} {A : Option Addr} {zs : List Int} {n cap : Nat} (hz : IntsAt w A zs) (hn : zs.length = n) (hl : n ≤ 1000) : OfSays w A n cap (cE zs) := fun V hb => by
  have hz1 := mo_ints (hz.next hb)
  rcases Mo.good_or zs zs.length (Nat.le_refl _) with hg | ⟨p, hp, hg, hd⟩
  · have hN := hz1.nats hg
    rw [List.take_length] at hg hN
    obtain ⟨a, b, c, d, e⟩ := vs4 (Mo.Mk.ofL_W4 (Mo.toN_lt hg))
    refine ⟨a, b, c, d, ?_⟩
    have := Mo.of_ok A cap (Mo.toN zs) V hN (Mo.toN_lt hg) (Mo.toN_nodup hg) (by rw [Mo.toN_len]; unfold maxLen; omega)
    rw [e, Mo.toN_len, hn] at this
    rw [show cE zs = 0 from if_pos hg]
    exact this
  · have hN := hz1.nats hg
    have hlen : (Mo.toN (zs.take p)).length = p := by rw [Mo.toN_len, List.length_take]; omega
    have hbad : ¬Mo.Good zs := fun q => by
      rcases hd with h | h | ⟨h1, h2, h3⟩
      · have hm : zs.getD p 0 ∈ zs := by
          rw [List.getD_eq_getElem?_getD, List.getElem?_eq_getElem hp]; exact List.getElem_mem hp
        have := (q.1 _ hm).1
        omega
      · have hm : zs.getD p 0 ∈ zs := by
          rw [List.getD_eq_getElem?_getD, List.getElem?_eq_getElem hp]; exact List.getElem_mem hp
        have := (q.1 _ hm).2
        omega
      · have hnd := q.2
        have e1 : zs.take (p + 1) = zs.take p ++ [zs.getD p 0] := by
          rw [List.take_add_one, List.getElem?_eq_getElem hp, List.getD_eq_getElem?_getD, List.getElem?_eq_getElem hp]; rfl
        have hnd2 : (zs.take (p + 1)).Nodup := hnd.sublist (List.take_sublist _ _)
        rw [e1, List.nodup_append] at hnd2
        exact hnd2.2.2 _ h3 _ (List.mem_singleton.2 rfl) rfl
    rw [show cE zs = 1 from if_neg hbad]
    rcases hz1 with e | ⟨ad, e, hbl, hcl⟩
    · rw [e] at hp; simp at hp
    · subst e
      have hcell := hcl p hp
      generalize zs.getD p 0 = z at *
      have hd' : z < 0 ∨ 256 ≤ z ∨ ∃ c : Nat, z = c ∧ c < 256 ∧ c ∈ Mo.toN (zs.take p) := by
        rcases hd with h | h | ⟨h1, h2, h3⟩
        · exact .inl h
        · exact .inr (.inl h)
        · exact .inr (.inr ⟨z.toNat, by omega, by omega, (Mo.toN_mem hg h1).2 h3⟩)
      exact ⟨0, 0, 0, 0, Mo.of_bad ad cap p n z _ V hN hbl hcell (Mo.toN_lt hg) (Mo.toN_nodup hg) (by unfold maxLen; omega) (by omega) hlen hd'⟩
end Go.Proofs.Ytjolkcomlindhaa
