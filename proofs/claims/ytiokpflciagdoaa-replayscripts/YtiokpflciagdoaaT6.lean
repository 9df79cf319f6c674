/- does: a call on both caches. -/
import Derived.Test.YtiokpflciagdoaaT5
namespace Go.Proofs.Ytiokpflciagdoaa
open Go.RowKit Go.Maps

/-- Of what was there nothing has turned but three blocks. -/
structure Kp (w V : World) (a b c : Nat) : Prop where
  zero : Below 0 w V
  block : ∀ i, i < w.heap.size → i ≠ a → i ≠ b → i ≠ c → V.heap[i]? = w.heap[i]?
section
variable {w V V' : World} {a b c : Nat}
theorem Kp.refl (w : World) (a b c : Nat) : Kp w w a b c := ⟨Below.refl _ _, fun _ _ _ _ _ => rfl⟩
theorem Kp.trans (h : Kp w V a b c) (k : Kp V V' a b c) : Kp w V' a b c :=
  ⟨h.zero.trans k.zero, fun i hi h1 h2 h3 => (k.block i (Nat.lt_of_lt_of_le hi h.zero.size) h1 h2 h3).trans (h.block i hi h1 h2 h3)⟩
theorem Kp.of_below (h : Below w.heap.size w V) : Kp w V a b c := ⟨h.mono (Nat.zero_le _), fun i hi _ _ _ => h.block i hi⟩
theorem Kp.of_grown {r : Nat} (h : w.grownBy V (some r)) (hr : r = a ∨ r = b ∨ r = c) : Kp w V a b c :=
  ⟨⟨h.os, h.tape, h.output, h.size, fun i hi => by omega⟩, fun i hi h1 h2 h3 => h.block i hi (by
    intro e
    have e' : i = r := by simpa using e
    rcases hr with rfl | rfl | rfl
    · exact h1 e'
    · exact h2 e'
    · exact h3 e')⟩
theorem Kp.bk {g : Nat} {t : TypeId} {cs : Array Value} (h : Kp w V a b c) (k : Bk w g t cs) (h1 : g ≠ a) (h2 : g ≠ b) (h3 : g ≠ c) : Bk V g t cs := (h.block g k.lt h1 h2 h3).trans k
theorem Kp.below {B : Nat} {w0 : World} (h : Kp w V a b c) (k : Below B w0 w) (hB : B ≤ w.heap.size) (h1 : B ≤ a) (h2 : B ≤ b) (h3 : B ≤ c) : Below B w0 V := by
  have z : Below B w V := ⟨h.zero.os, h.zero.tape, h.zero.output, h.zero.size, fun i hi => h.block i (by omega) (by omega) (by omega) (by omega)⟩
  exact k.trans z
end
theorem CacheAt.other {w w' : World} {p bk bt r : Nat} {most : Int} {L : List (Pl × Int)} {T : List (Jb × Int)} (h : CacheAt w p bk bt most L T) (hg : w.grownBy w' (some r)) (h1 : p ≠ r) (h2 : bk ≠ r) (h3 : bt ≠ r) : CacheAt w' p bk bt most L T := by
  obtain ⟨D, k1, k2⟩ := h.kept
  obtain ⟨E, k3, k4⟩ := h.tak
  exact ⟨h.blk.grown hg h1, h.ne, ⟨D, k1.kept hg (by simpa using h2), k2⟩, ⟨E, k3.kept hg (by simpa using h3), k4⟩⟩
/-- Both caches, told the same. -/
def Both (V : World) (p bk bt q : Nat) (most : Int) : Prop :=
  ∃ (L : List (Pl × Int)) (T : List (Jb × Int)) (sl sb : Value) (CL : List Cr), CacheAt V p bk bt most L T ∧ RefAt V q most sl sb CL T ∧ SameL CL L ∧ (L.length : Int) ≤ most ∧ T.length ≤ 64
/-- On the way through does. -/
structure Ds (w V : World) (g p bk bt q : Nat) (cs : Array Value) (most : Int) (L : List (Pl × Int)) (T : List (Jb × Int)) (sl sb : Value) (CL : List Cr) (T' : List (Jb × Int)) : Prop where
  box : Bk V g 33 cs
  cache : CacheAt V p bk bt most L T
  ref : RefAt V q most sl sb CL T'
  kp : Kp w V bk bt q
  ne : g ≠ bk ∧ g ≠ bt ∧ g ≠ q
  ord : bk < q ∧ bt < q ∧ p < q
section
variable {w V V' : World} {g p bk bt q : Nat} {cs : Array Value} {most : Int} {L L' : List (Pl × Int)} {T T' U U' : List (Jb × Int)} {sl sb sl' sb' : Value} {CL CL' : List Cr}
theorem Ds.drew (h : Ds w V g p bk bt q cs most L T sl sb CL U) : Ds w V.drew g p bk bt q cs most L T sl sb CL U :=
  ⟨h.box, h.cache.hid (w' := V.drew) rfl, h.ref.hid (V' := V.drew) rfl, ⟨h.kp.zero.drew, h.kp.block⟩, h.ne, h.ord⟩
theorem Ds.next (h : Ds w V g p bk bt q cs most L T sl sb CL U) (hb : Below V.heap.size V V') : Ds w V' g p bk bt q cs most L T sl sb CL U :=
  ⟨h.box.next hb, h.cache.next hb, h.ref.next hb, h.kp.trans (Kp.of_below hb), h.ne, h.ord⟩
theorem Ds.turnK (h : Ds w V g p bk bt q cs most L T sl sb CL U) (hc : CacheAt V' p bk bt most L' T) (hg : V.grownBy V' (some bk)) : Ds w V' g p bk bt q cs most L' T sl sb CL U :=
  ⟨h.box.grown hg h.ne.1, hc, h.ref.grown hg h.ord.1, h.kp.trans (Kp.of_grown hg (.inl rfl)), h.ne, h.ord⟩
theorem Ds.turnT (h : Ds w V g p bk bt q cs most L T sl sb CL U) (hc : CacheAt V' p bk bt most L T') (hg : V.grownBy V' (some bt)) : Ds w V' g p bk bt q cs most L T' sl sb CL U :=
  ⟨h.box.grown hg h.ne.2.1, hc, h.ref.grown hg h.ord.2.1, h.kp.trans (Kp.of_grown hg (.inr (.inl rfl))), h.ne, h.ord⟩
theorem Ds.turnR (h : Ds w V g p bk bt q cs most L T sl sb CL U) (hc : RefAt V' q most sl' sb' CL' U') (hg : V.grownBy V' (some q)) : Ds w V' g p bk bt q cs most L T sl' sb' CL' U' :=
  ⟨h.box.grown hg h.ne.2.2, h.cache.other hg (Nat.ne_of_lt h.ord.2.2) (Nat.ne_of_lt h.ord.1) (Nat.ne_of_lt h.ord.2.1), hc, h.kp.trans (Kp.of_grown hg (.inr (.inr rfl))), h.ne, h.ord⟩
theorem Ds.cells {a0 a1 a2 a3 a4 a5 a6 a7 a8 a9 a10 : Value} (h : Ds w V g p bk bt q #[a0, a1, a2, a3, a4, a5, a6, a7, a8, a9, a10] most L T sl sb CL U) :
    V.cell? ⟨g, 1, none⟩ = some a1 ∧ V.cell? ⟨g, 2, none⟩ = some a2 ∧ V.cell? ⟨g, 3, none⟩ = some a3 ∧ V.cell? ⟨g, 4, none⟩ = some a4 ∧ V.cell? ⟨g, 5, none⟩ = some a5 ∧ V.cell? ⟨g, 6, none⟩ = some a6 ∧ V.cell? ⟨g, 7, none⟩ = some a7 ∧ V.cell? ⟨g, 8, none⟩ = some a8 ∧ V.cell? ⟨g, 9, none⟩ = some a9 ∧ V.cell? ⟨g, 10, none⟩ = some a10 :=
  ⟨h.box.cell 1 _ rfl, h.box.cell 2 _ rfl, h.box.cell 3 _ rfl, h.box.cell 4 _ rfl, h.box.cell 5 _ rfl, h.box.cell 6 _ rfl, h.box.cell 7 _ rfl, h.box.cell 8 _ rfl, h.box.cell 9 _ rfl, h.box.cell 10 _ rfl⟩
end
set_option maxRecDepth 100000 in
set_option maxHeartbeats 4000000 in
theorem does_use {w : World} {p bk bt q : Nat} {most : Int} {L : List (Pl × Int)} {T : List (Jb × Int)} {sl sb : Value} {CL : List Cr} (hC : CacheAt w p bk bt most L T) (hR : RefAt w q most sl sb CL T) (hord : bk < q ∧ bt < q ∧ p < q) (o : OpR) (hd : o.d = 0) (r : Int) (L' : List (Pl × Int)) (CL' : List Cr)
    (KU : ∀ V, Ds w V w.heap.size p bk bt q #[.int .i64 o.d, .int .i64 o.c.j, .int .i64 o.c.e, .int .i64 o.c.s, .int .i64 o.c.f, .int .i64 o.c.u, .slice o.c.A o.c.n o.c.cap, .int .i64 o.c.c, .int .i64 o.now, .int .i64 o.job, .int .i64 o.ep] most L T sl sb CL T → Calls Try.prog 18 #[.pointer (some ⟨p, 0, none⟩), .agg #[.int .i64 o.c.j, .int .i64 o.c.e, .int .i64 o.c.s, .int .i64 o.c.f, .int .i64 o.c.u, .slice o.c.A o.c.n o.c.cap, .int .i64 o.c.c], .int .i64 o.now] V fun e w' => e = .returned (.int .i64 r) ∧ Ds w w' w.heap.size p bk bt q #[.int .i64 o.d, .int .i64 o.c.j, .int .i64 o.c.e, .int .i64 o.c.s, .int .i64 o.c.f, .int .i64 o.c.u, .slice o.c.A o.c.n o.c.cap, .int .i64 o.c.c, .int .i64 o.now, .int .i64 o.job, .int .i64 o.ep] most L' T sl sb CL T)
    (KV : ∀ V, Ds w V w.heap.size p bk bt q #[.int .i64 o.d, .int .i64 o.c.j, .int .i64 o.c.e, .int .i64 o.c.s, .int .i64 o.c.f, .int .i64 o.c.u, .slice o.c.A o.c.n o.c.cap, .int .i64 o.c.c, .int .i64 o.now, .int .i64 o.job, .int .i64 o.ep] most L' T sl sb CL T → Calls Try.prog 21 #[.pointer (some ⟨q, 0, none⟩), .agg #[.int .i64 o.c.j, .int .i64 o.c.e, .int .i64 o.c.s, .int .i64 o.c.f, .int .i64 o.c.u, .slice o.c.A o.c.n o.c.cap, .int .i64 o.c.c], .int .i64 o.now] V fun e w' => ∃ sl', e = .returned (.int .i64 r) ∧ Ds w w' w.heap.size p bk bt q #[.int .i64 o.d, .int .i64 o.c.j, .int .i64 o.c.e, .int .i64 o.c.s, .int .i64 o.c.f, .int .i64 o.c.u, .slice o.c.A o.c.n o.c.cap, .int .i64 o.c.c, .int .i64 o.now, .int .i64 o.job, .int .i64 o.ep] most L' T sl' sb CL' T) :
    Calls Try.prog 12 #[.pointer (some ⟨p, 0, none⟩), .pointer (some ⟨q, 0, none⟩), .agg #[.int .i64 o.d, .int .i64 o.c.j, .int .i64 o.c.e, .int .i64 o.c.s, .int .i64 o.c.f, .int .i64 o.c.u, .slice o.c.A o.c.n o.c.cap, .int .i64 o.c.c, .int .i64 o.now, .int .i64 o.job, .int .i64 o.ep]] w fun e w' => ∃ sl', e = .returned (.bool true) ∧ Ds w w' w.heap.size p bk bt q #[.int .i64 o.d, .int .i64 o.c.j, .int .i64 o.c.e, .int .i64 o.c.s, .int .i64 o.c.f, .int .i64 o.c.u, .slice o.c.A o.c.n o.c.cap, .int .i64 o.c.c, .int .i64 o.now, .int .i64 o.job, .int .i64 o.ep] most L' T sl' sb CL' T := by
  replace KU := Lib.hid KU
  replace KV := Lib.hid KV
  have td : (o.d == 0) = true := by simpa using hd
  clear hd
  have hlk := hC.ltk
  have hlt := hC.ltt
  have hlq := hR.blk.lt
  have st : Ds w (w.alloc (.cells #[.int .i64 o.d, .int .i64 o.c.j, .int .i64 o.c.e, .int .i64 o.c.s, .int .i64 o.c.f, .int .i64 o.c.u, .slice o.c.A o.c.n o.c.cap, .int .i64 o.c.c, .int .i64 o.now, .int .i64 o.job, .int .i64 o.ep] 33)) w.heap.size p bk bt q #[.int .i64 o.d, .int .i64 o.c.j, .int .i64 o.c.e, .int .i64 o.c.s, .int .i64 o.c.f, .int .i64 o.c.u, .slice o.c.A o.c.n o.c.cap, .int .i64 o.c.c, .int .i64 o.now, .int .i64 o.job, .int .i64 o.ep] most L T sl sb CL T := ⟨Bk.new _ _ _, hC.next (below_alloc _ _), hR.next (below_alloc _ _), Kp.of_below (below_alloc _ _), ⟨by omega, by omega, by omega⟩, hord⟩
  have b0 := st.box.cell 0 _ rfl
  clear hC hR hlk hlt hlq
  go_enter Try.func12, Try.ntmps12
  go_wp2_with fail
  clear b0
  generalize w.alloc (.cells #[.int .i64 o.d, .int .i64 o.c.j, .int .i64 o.c.e, .int .i64 o.c.s, .int .i64 o.c.f, .int .i64 o.c.u, .slice o.c.A o.c.n o.c.cap, .int .i64 o.c.c, .int .i64 o.now, .int .i64 o.job, .int .i64 o.ep] 33) = V0 at *
  go_region_held3 (fun W => W.cell? ⟨w.heap.size, 1, none⟩ = some (.int .i64 o.c.j) ∧ W.cell? ⟨w.heap.size, 2, none⟩ = some (.int .i64 o.c.e) ∧ W.cell? ⟨w.heap.size, 3, none⟩ = some (.int .i64 o.c.s) ∧ W.cell? ⟨w.heap.size, 4, none⟩ = some (.int .i64 o.c.f) ∧ W.cell? ⟨w.heap.size, 5, none⟩ = some (.int .i64 o.c.u) ∧ W.cell? ⟨w.heap.size, 6, none⟩ = some (.slice o.c.A o.c.n o.c.cap) ∧ W.cell? ⟨w.heap.size, 7, none⟩ = some (.int .i64 o.c.c) ∧ W.cell? ⟨w.heap.size, 8, none⟩ = some (.int .i64 o.now) ∧ W.cell? ⟨w.heap.size, 9, none⟩ = some (.int .i64 o.job) ∧ W.cell? ⟨w.heap.size, 10, none⟩ = some (.int .i64 o.ep))
    (first | exact st.cells | exact st.drew.cells)
    (first | (go_at_call 18; refine (KU.out _ (by first | exact st | exact st.drew)).mono ?_; clear st; rintro y wn ⟨rfl, st⟩) | (go_at_call 21; refine (KV.out _ st).mono ?_; clear st; rintro y wn ⟨sl', rfl, st⟩))
  all_goals
    go_wp2_with fail
    go_ret
    exact ⟨sl', by simp, st⟩
set_option maxRecDepth 100000 in
set_option maxHeartbeats 4000000 in
theorem does_rev {w : World} {p bk bt q : Nat} {most : Int} {L : List (Pl × Int)} {T : List (Jb × Int)} {sl sb : Value} {CL : List Cr} (hC : CacheAt w p bk bt most L T) (hR : RefAt w q most sl sb CL T) (hord : bk < q ∧ bt < q ∧ p < q) (o : OpR) (hd : o.d = 1) (r : Int) (T' : List (Jb × Int))
    (KU : ∀ V, Ds w V w.heap.size p bk bt q #[.int .i64 o.d, .int .i64 o.c.j, .int .i64 o.c.e, .int .i64 o.c.s, .int .i64 o.c.f, .int .i64 o.c.u, .slice o.c.A o.c.n o.c.cap, .int .i64 o.c.c, .int .i64 o.now, .int .i64 o.job, .int .i64 o.ep] most L T sl sb CL T → Calls Try.prog 19 #[.pointer (some ⟨p, 0, none⟩), .int .i64 o.job, .int .i64 o.ep] V fun e w' => e = .returned (.int .i64 r) ∧ Ds w w' w.heap.size p bk bt q #[.int .i64 o.d, .int .i64 o.c.j, .int .i64 o.c.e, .int .i64 o.c.s, .int .i64 o.c.f, .int .i64 o.c.u, .slice o.c.A o.c.n o.c.cap, .int .i64 o.c.c, .int .i64 o.now, .int .i64 o.job, .int .i64 o.ep] most L T' sl sb CL T)
    (KV : ∀ V, Ds w V w.heap.size p bk bt q #[.int .i64 o.d, .int .i64 o.c.j, .int .i64 o.c.e, .int .i64 o.c.s, .int .i64 o.c.f, .int .i64 o.c.u, .slice o.c.A o.c.n o.c.cap, .int .i64 o.c.c, .int .i64 o.now, .int .i64 o.job, .int .i64 o.ep] most L T' sl sb CL T → Calls Try.prog 22 #[.pointer (some ⟨q, 0, none⟩), .int .i64 o.job, .int .i64 o.ep] V fun e w' => ∃ sb', e = .returned (.int .i64 r) ∧ Ds w w' w.heap.size p bk bt q #[.int .i64 o.d, .int .i64 o.c.j, .int .i64 o.c.e, .int .i64 o.c.s, .int .i64 o.c.f, .int .i64 o.c.u, .slice o.c.A o.c.n o.c.cap, .int .i64 o.c.c, .int .i64 o.now, .int .i64 o.job, .int .i64 o.ep] most L T' sl sb' CL T') :
    Calls Try.prog 12 #[.pointer (some ⟨p, 0, none⟩), .pointer (some ⟨q, 0, none⟩), .agg #[.int .i64 o.d, .int .i64 o.c.j, .int .i64 o.c.e, .int .i64 o.c.s, .int .i64 o.c.f, .int .i64 o.c.u, .slice o.c.A o.c.n o.c.cap, .int .i64 o.c.c, .int .i64 o.now, .int .i64 o.job, .int .i64 o.ep]] w fun e w' => ∃ sb', e = .returned (.bool true) ∧ Ds w w' w.heap.size p bk bt q #[.int .i64 o.d, .int .i64 o.c.j, .int .i64 o.c.e, .int .i64 o.c.s, .int .i64 o.c.f, .int .i64 o.c.u, .slice o.c.A o.c.n o.c.cap, .int .i64 o.c.c, .int .i64 o.now, .int .i64 o.job, .int .i64 o.ep] most L T' sl sb' CL T' := by
  replace KU := Lib.hid KU
  replace KV := Lib.hid KV
  have td : (o.d == 0) = false := by rw [hd]; rfl
  have td1 : (o.d == 1) = true := by simpa using hd
  clear hd
  have hlk := hC.ltk
  have hlt := hC.ltt
  have hlq := hR.blk.lt
  have st : Ds w (w.alloc (.cells #[.int .i64 o.d, .int .i64 o.c.j, .int .i64 o.c.e, .int .i64 o.c.s, .int .i64 o.c.f, .int .i64 o.c.u, .slice o.c.A o.c.n o.c.cap, .int .i64 o.c.c, .int .i64 o.now, .int .i64 o.job, .int .i64 o.ep] 33)) w.heap.size p bk bt q #[.int .i64 o.d, .int .i64 o.c.j, .int .i64 o.c.e, .int .i64 o.c.s, .int .i64 o.c.f, .int .i64 o.c.u, .slice o.c.A o.c.n o.c.cap, .int .i64 o.c.c, .int .i64 o.now, .int .i64 o.job, .int .i64 o.ep] most L T sl sb CL T := ⟨Bk.new _ _ _, hC.next (below_alloc _ _), hR.next (below_alloc _ _), Kp.of_below (below_alloc _ _), ⟨by omega, by omega, by omega⟩, hord⟩
  have b0 := st.box.cell 0 _ rfl
  clear hC hR hlk hlt hlq
  go_enter Try.func12, Try.ntmps12
  go_wp2_with fail
  clear b0
  generalize w.alloc (.cells #[.int .i64 o.d, .int .i64 o.c.j, .int .i64 o.c.e, .int .i64 o.c.s, .int .i64 o.c.f, .int .i64 o.c.u, .slice o.c.A o.c.n o.c.cap, .int .i64 o.c.c, .int .i64 o.now, .int .i64 o.job, .int .i64 o.ep] 33) = V0 at *
  go_region_held3 (fun W => W.cell? ⟨w.heap.size, 1, none⟩ = some (.int .i64 o.c.j) ∧ W.cell? ⟨w.heap.size, 2, none⟩ = some (.int .i64 o.c.e) ∧ W.cell? ⟨w.heap.size, 3, none⟩ = some (.int .i64 o.c.s) ∧ W.cell? ⟨w.heap.size, 4, none⟩ = some (.int .i64 o.c.f) ∧ W.cell? ⟨w.heap.size, 5, none⟩ = some (.int .i64 o.c.u) ∧ W.cell? ⟨w.heap.size, 6, none⟩ = some (.slice o.c.A o.c.n o.c.cap) ∧ W.cell? ⟨w.heap.size, 7, none⟩ = some (.int .i64 o.c.c) ∧ W.cell? ⟨w.heap.size, 8, none⟩ = some (.int .i64 o.now) ∧ W.cell? ⟨w.heap.size, 9, none⟩ = some (.int .i64 o.job) ∧ W.cell? ⟨w.heap.size, 10, none⟩ = some (.int .i64 o.ep))
    (first | exact st.cells | exact st.drew.cells)
    (first | (go_at_call 19; refine (KU.out _ (by first | exact st | exact st.drew)).mono ?_; clear st; rintro y wn ⟨rfl, st⟩) | (go_at_call 22; refine (KV.out _ st).mono ?_; clear st; rintro y wn ⟨sb', rfl, st⟩))
  all_goals
    go_wp2_with fail
    go_ret
    exact ⟨sb', by simp, st⟩
set_option maxRecDepth 100000 in
set_option maxHeartbeats 4000000 in
theorem does_none {w : World} {p bk bt q : Nat} {most : Int} {L : List (Pl × Int)} {T : List (Jb × Int)} {sl sb : Value} {CL : List Cr} (hC : CacheAt w p bk bt most L T) (hR : RefAt w q most sl sb CL T) (hord : bk < q ∧ bt < q ∧ p < q) (o : OpR) (h0 : o.d ≠ 0) (h1 : o.d ≠ 1) :
    Calls Try.prog 12 #[.pointer (some ⟨p, 0, none⟩), .pointer (some ⟨q, 0, none⟩), .agg #[.int .i64 o.d, .int .i64 o.c.j, .int .i64 o.c.e, .int .i64 o.c.s, .int .i64 o.c.f, .int .i64 o.c.u, .slice o.c.A o.c.n o.c.cap, .int .i64 o.c.c, .int .i64 o.now, .int .i64 o.job, .int .i64 o.ep]] w fun e w' => e = .returned (.bool true) ∧ Ds w w' w.heap.size p bk bt q #[.int .i64 o.d, .int .i64 o.c.j, .int .i64 o.c.e, .int .i64 o.c.s, .int .i64 o.c.f, .int .i64 o.c.u, .slice o.c.A o.c.n o.c.cap, .int .i64 o.c.c, .int .i64 o.now, .int .i64 o.job, .int .i64 o.ep] most L T sl sb CL T := by
  have td : (o.d == 0) = false := by simpa using h0
  have td1 : (o.d == 1) = false := by simpa using h1
  have hlk := hC.ltk
  have hlt := hC.ltt
  have hlq := hR.blk.lt
  have st : Ds w (w.alloc (.cells #[.int .i64 o.d, .int .i64 o.c.j, .int .i64 o.c.e, .int .i64 o.c.s, .int .i64 o.c.f, .int .i64 o.c.u, .slice o.c.A o.c.n o.c.cap, .int .i64 o.c.c, .int .i64 o.now, .int .i64 o.job, .int .i64 o.ep] 33)) w.heap.size p bk bt q #[.int .i64 o.d, .int .i64 o.c.j, .int .i64 o.c.e, .int .i64 o.c.s, .int .i64 o.c.f, .int .i64 o.c.u, .slice o.c.A o.c.n o.c.cap, .int .i64 o.c.c, .int .i64 o.now, .int .i64 o.job, .int .i64 o.ep] most L T sl sb CL T := ⟨Bk.new _ _ _, hC.next (below_alloc _ _), hR.next (below_alloc _ _), Kp.of_below (below_alloc _ _), ⟨by omega, by omega, by omega⟩, hord⟩
  have b0 := st.box.cell 0 _ rfl
  clear hC hR hlk hlt hlq
  go_enter Try.func12, Try.ntmps12
  go_wp2_with fail
  go_ret
  exact ⟨rfl, st⟩
theorem does_any {w0 w : World} {p bk bt q : Nat} {most : Int} (hB : Both w p bk bt q most) (hm : most ≤ 64) (hord : bk < q ∧ bt < q ∧ p < q) (hw : Below w0.heap.size w0 w) (hlo : w0.heap.size ≤ bk ∧ w0.heap.size ≤ bt ∧ w0.heap.size ≤ q) (o : OpR) (ho : OpAt w0 o) :
    Calls Try.prog 12 #[.pointer (some ⟨p, 0, none⟩), .pointer (some ⟨q, 0, none⟩), .agg #[.int .i64 o.d, .int .i64 o.c.j, .int .i64 o.c.e, .int .i64 o.c.s, .int .i64 o.c.f, .int .i64 o.c.u, .slice o.c.A o.c.n o.c.cap, .int .i64 o.c.c, .int .i64 o.now, .int .i64 o.job, .int .i64 o.ep]] w fun e w' => e = .returned (.bool true) ∧ Both w' p bk bt q most ∧ Kp w w' bk bt q := by
  obtain ⟨L, T, sl, sb, CL, hC, hR, hS, hL, hT⟩ := hB
  have hap := hC.apartT
  have hlen := hS.length
  by_cases h0 : o.d = 0
  · obtain ⟨e1, e2⟩ := use_same hS hap hL (chkC o.c) (x := o.c) (p := o.c.pl ho.cr.pk) rfl rfl rfl o.now
    have e3 := useOf_length hL (chkC o.c) T (o.c.pl ho.cr.pk) o.c.u o.now
    refine (does_use hC hR hord o h0 (useOf (chkC o.c) most L T (o.c.pl ho.cr.pk) o.c.u o.now).1 (useOf (chkC o.c) most L T (o.c.pl ho.cr.pk) o.c.u o.now).2 (ruseOf (chkC o.c) most CL T o.c o.now).2 (fun V st => ?_) (fun V st => ?_)).mono ?_
    · have hz : IntsAt V o.c.A o.c.zs := ho.cr.ints.next (st.kp.below hw hw.size hlo.1 hlo.2.1 hlo.2.2)
      exact (use_any st.cache (o.c.pl ho.cr.pk) o.c.f o.c.u o.c.A o.c.n o.c.cap o.c.c o.now o.c.zs hz ho.cr.len ho.cr.max ho.cr.wu (by omega)).mono fun _ _ ⟨he, hc, hg⟩ => ⟨he, st.turnK hc hg⟩
    · have hz : IntsAt V o.c.A o.c.zs := ho.cr.ints.next (st.kp.below hw hw.size hlo.1 hlo.2.1 hlo.2.2)
      refine (ruse_any st.ref o.c o.now hz ho.cr.len (by omega) (by omega)).mono ?_
      rintro e w' ⟨sl', he, hc, hg⟩
      exact ⟨sl', by rw [← e1]; exact he, st.turnR hc hg⟩
    · rintro e w' ⟨sl', he, st⟩
      exact ⟨he, ⟨_, _, _, _, _, st.cache, st.ref, e2, e3, hT⟩, st.kp⟩
  · by_cases h1 : o.d = 1
    · have e3 := revOf_length hT ⟨o.job, ho.wj⟩ o.ep
      refine (does_rev hC hR hord o h1 (revOf T ⟨o.job, ho.wj⟩ o.ep).1 (revOf T ⟨o.job, ho.wj⟩ o.ep).2 (fun V st => ?_) (fun V st => ?_)).mono ?_
      · exact (rev_any st.cache ⟨o.job, ho.wj⟩ o.ep ho.we hT).mono fun _ _ ⟨he, hc, hg⟩ => ⟨he, st.turnT hc hg⟩
      · refine (rrev_any st.ref hap ⟨o.job, ho.wj⟩ o.ep hT).mono ?_
        rintro e w' ⟨sb', he, hc, hg⟩
        exact ⟨sb', he, st.turnR hc hg⟩
      · rintro e w' ⟨sb', he, st⟩
        exact ⟨he, ⟨_, _, _, _, _, st.cache, st.ref, hS, hL, e3⟩, st.kp⟩
    · exact (does_none hC hR hord o h0 h1).mono fun _ _ ⟨he, st⟩ => ⟨he, ⟨_, _, _, _, _, st.cache, st.ref, hS, hL, hT⟩, st.kp⟩
end Go.Proofs.Ytiokpflciagdoaa
