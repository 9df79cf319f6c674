/- Used, Revoked. -/
import Derived.Test.YtiokpflciagdoaaA4
import Derived.Test.YtiokpflciagdoaaA3
namespace Go.Proofs.Ytiokpflciagdoaa
open Go.RowKit Go.Maps

/-- What is known while Used is walked. -/
structure Us (w V : World) (cs : Array Value) (p bk bt : Nat) (most : Int) (L : List (Pl × Int)) (T : List (Jb × Int)) : Prop where
  box : Bk V w.heap.size 31 cs
  cache : CacheAt V p bk bt most L T
  low : Below w.heap.size w V
section
variable {w V V' : World} {cs : Array Value} {p bk bt : Nat} {most : Int} {L : List (Pl × Int)} {T : List (Jb × Int)}
theorem Us.next (h : Us w V cs p bk bt most L T) (hb : Below V.heap.size V V') : Us w V' cs p bk bt most L T := ⟨h.box.next hb, h.cache.next hb, h.low.trans (hb.mono h.low.size)⟩
theorem Us.drew (h : Us w V cs p bk bt most L T) : Us w V.drew cs p bk bt most L T := ⟨h.box, h.cache.hid (w' := V.drew) rfl, h.low.drew⟩
theorem Us.facts {a0 a1 a2 a3 a4 a5 a6 : Value} (h : Us w V #[a0, a1, a2, a3, a4, a5, a6] p bk bt most L T) (x : Pl) : V.cell? ⟨p, 1, none⟩ = some (.map (some bk)) ∧ V.cell? ⟨w.heap.size, 0, none⟩ = some a0 ∧ V.cell? ⟨w.heap.size, 1, none⟩ = some a1 ∧ V.cell? ⟨w.heap.size, 2, none⟩ = some a2 ∧ V.cell? ⟨w.heap.size, 3, none⟩ = some a3 ∧ V.cell? ⟨w.heap.size, 4, none⟩ = some a4 ∧ V.cell? ⟨w.heap.size, 5, none⟩ = some a5 ∧ V.cell? ⟨w.heap.size, 6, none⟩ = some a6 ∧
    (Instr.lookup 54 (.map (some bk)) (.agg #[.int .i64 x.j, .int .i64 x.e, .int .i64 x.s]) true).run Try.prog V = .ok (.tuple #[.int .i64 ((getL L x).getD 0), .bool (hasL L x)]) V :=
  ⟨h.cache.cells.2.1, h.box.cell 0 _ rfl, h.box.cell 1 _ rfl, h.box.cell 2 _ rfl, h.box.cell 3 _ rfl, h.box.cell 4 _ rfl, h.box.cell 5 _ rfl, h.box.cell 6 _ rfl, h.cache.look x⟩
end
/-- Is the place kept, and not over? -/
def usedB (L : List (Pl × Int)) (x : Pl) (now : Int) : Bool := hasL L x && !decide ((getL L x).getD 0 ≤ now)
set_option maxRecDepth 100000 in
set_option maxHeartbeats 1000000 in
theorem used_any {w : World} {p bk bt : Nat} {most : Int} {L : List (Pl × Int)} {T : List (Jb × Int)} (h : CacheAt w p bk bt most L T) (x : Pl) (f u : Int) (A : Option Addr) (n cap : Nat) (c now : Int) :
    Calls Try.prog 14 #[.pointer (some ⟨p, 0, none⟩), .agg #[.int .i64 x.j, .int .i64 x.e, .int .i64 x.s, .int .i64 f, .int .i64 u, .slice A n cap, .int .i64 c], .int .i64 now] w fun e w' => e = .returned (.bool (usedB L x now)) ∧ Below w.heap.size w w' := by
  have st : Us w (w.alloc (.cells #[.int .i64 x.j, .int .i64 x.e, .int .i64 x.s, .int .i64 f, .int .i64 u, .slice A n cap, .int .i64 c] 31)) #[.int .i64 x.j, .int .i64 x.e, .int .i64 x.s, .int .i64 f, .int .i64 u, .slice A n cap, .int .i64 c] p bk bt most L T :=
    ⟨Bk.new _ _ _, h.next (below_alloc _ _), below_alloc _ _⟩
  clear h
  obtain ⟨b, hb⟩ : ∃ b, b = hasL L x := ⟨_, rfl⟩
  obtain ⟨g, hg⟩ : ∃ g, g = (getL L x).getD 0 := ⟨_, rfl⟩
  have HF := Lib.hid (fun V (st : Us w V #[.int .i64 x.j, .int .i64 x.e, .int .i64 x.s, .int .i64 f, .int .i64 u, .slice A n cap, .int .i64 c] p bk bt most L T) => st.facts x)
  unfold usedB
  rw [← hb, ← hg] at HF ⊢
  clear hb hg
  go_enter Try.func14, Try.ntmps14
  go_wp2_with fail
  generalize w.alloc (.cells #[.int .i64 x.j, .int .i64 x.e, .int .i64 x.s, .int .i64 f, .int .i64 u, .slice A n cap, .int .i64 c] 31) = V at *
  go_region_held3 (fun W => W.cell? ⟨p, 1, none⟩ = some (.map (some bk)) ∧ W.cell? ⟨w.heap.size, 0, none⟩ = some (.int .i64 x.j) ∧ W.cell? ⟨w.heap.size, 1, none⟩ = some (.int .i64 x.e) ∧ W.cell? ⟨w.heap.size, 2, none⟩ = some (.int .i64 x.s) ∧ W.cell? ⟨w.heap.size, 3, none⟩ = some (.int .i64 f) ∧ W.cell? ⟨w.heap.size, 4, none⟩ = some (.int .i64 u) ∧ W.cell? ⟨w.heap.size, 5, none⟩ = some (.slice A n cap) ∧ W.cell? ⟨w.heap.size, 6, none⟩ = some (.int .i64 c) ∧ (Instr.lookup 54 (.map (some bk)) (.agg #[.int .i64 x.j, .int .i64 x.e, .int .i64 x.s]) true).run Try.prog W = .ok (.tuple #[.int .i64 g, .bool b]) W)
    (first | exact HF.out _ st | exact HF.out _ st.drew)
    (first | (go_at_call 23; refine (placeOf_any _ _ _ _ _ _ _ _ _ _).mono ?_; rintro x wn ⟨rfl, hbn⟩; (first | replace hbn := undrew hbn | skip); replace st := st.next hbn; clear hbn))
  all_goals
    cases b
    · go_wp2_with fail
      go_ret
      exact ⟨rfl, st.low⟩
    · go_wp2_with (go_at_call 24; refine (isOver_any _ _ _).mono ?_; rintro e w' ⟨rfl, rfl⟩)
      go_ret
      exact ⟨rfl, st.low⟩

/-- Is it taken back? -/
def revB (T : List (Jb × Int)) (j : Jb) (e : Int) : Bool := hasL T j && decide (e ≤ (getL T j).getD 0)
set_option maxRecDepth 100000 in
set_option maxHeartbeats 1000000 in
theorem revoked_any {w : World} {p bk bt : Nat} {most : Int} {L : List (Pl × Int)} {T : List (Jb × Int)} (h : CacheAt w p bk bt most L T) (j : Jb) (e s f u : Int) (A : Option Addr) (n cap : Nat) (c : Int) :
    Calls Try.prog 16 #[.pointer (some ⟨p, 0, none⟩), .agg #[.int .i64 j.n, .int .i64 e, .int .i64 s, .int .i64 f, .int .i64 u, .slice A n cap, .int .i64 c]] w fun x w' => x = .returned (.bool (revB T j e)) ∧ Below w.heap.size w w' := by
  have h1 := h.next (below_alloc w (.cells #[.int .i64 j.n, .int .i64 e, .int .i64 s, .int .i64 f, .int .i64 u, .slice A n cap, .int .i64 c] 31))
  have k1 := Bk.new w 31 #[.int .i64 j.n, .int .i64 e, .int .i64 s, .int .i64 f, .int .i64 u, .slice A n cap, .int .i64 c]
  have hb0 := below_alloc w (.cells #[.int .i64 j.n, .int .i64 e, .int .i64 s, .int .i64 f, .int .i64 u, .slice A n cap, .int .i64 c] 31)
  clear h
  obtain ⟨b, hb⟩ : ∃ b, b = hasL T j := ⟨_, rfl⟩
  obtain ⟨g, hg⟩ : ∃ g, g = (getL T j).getD 0 := ⟨_, rfl⟩
  have HL := Lib.hid (fun V (h : CacheAt V p bk bt most L T) => h.lookT j)
  unfold revB
  rw [← hb, ← hg] at HL ⊢
  clear hb hg
  go_enter Try.func16, Try.ntmps16
  go_wp2_with fail
  refine region_still (by kernel_rfl) (by kernel_rfl) (fun w2 hw => ?_)
  have h2 := h1.hid hw
  have k2 := k1.hid hw
  replace hb0 := below_hid hb0 hw
  have hl := HL.out _ h2
  have c2 := h2.cells.2.2
  have q0 := k2.cell 0 _ rfl
  have q1 := k2.cell 1 _ rfl
  clear h1 k1 hw
  repeat still_step
  refine wpStill_nil ?_
  cases b
  · go_wp2_with fail
    go_ret
    exact ⟨rfl, hb0⟩
  · go_wp2_with fail
    go_ret
    exact ⟨rfl, hb0⟩
end Go.Proofs.Ytiokpflciagdoaa
