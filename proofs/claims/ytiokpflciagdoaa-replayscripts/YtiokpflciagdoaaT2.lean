/- The document's kept, Used, Revoked. -/
import Derived.Test.YtiokpflciagdoaaT1
namespace Go.Proofs.Ytiokpflciagdoaa
open Go.RowKit Go.Maps

/-- A class of worlds: whatever lies below B is as in w. -/
structure In (B : Nat) (w : World) where
  val : World
  ok : Below B w val
theorem inNonempty (B : Nat) (w : World) : Nonempty (In B w) := ⟨⟨w, Below.refl _ _⟩⟩
/-- A region that draws its order, whose own operations only read, and whose callees leave what lies below B: one walk. -/
theorem region_in {P : Program} {id : Nat} {Q : Exit → Act → World → Prop} {a : Act} {w : World} {l : List Oper} (B : Nat) (hm : P.follows .mixedOrders = true) (hB : Region.lexB .any l.toArray = true)
    (h : wpQuiet P l.toArray (fun w' => ∃ n : In B w, w' = n.val) (fun a' => ∀ w', Below B w w' → Q .normal a' w') l a) : (Code.region id l.toArray true).wp P Q a w := by
  refine wp_region_quiet (C := fun w' => ∃ n : In B w, w' = n.val) hm hB ⟨⟨_, (Below.refl B w).drew⟩, rfl⟩ ?_
  have e : (fun a' : Act => ∀ w', (∃ n : In B w, w' = n.val) → Q .normal a' w') = fun a' : Act => ∀ w', Below B w w' → Q .normal a' w' := by
    funext a'
    apply propext
    constructor
    · intro h w' hb; exact h w' ⟨⟨w', hb⟩, rfl⟩
    · rintro h w' ⟨n, rfl⟩; exact h _ n.ok
  rw [e]
  simpa using h
theorem In.cell {B : Nat} {w : World} {p : Addr} {v : Value} (hp : p.block < B) (h : w.cell? p = some v) (n : In B w) : n.val.cell? p = some v := (n.ok.cell hp).trans h
/-- A callee's contract in a world of the class. -/
theorem Calls.in_of {P : Program} {f : FuncId} {args : Array Value} {B : Nat} {w : World} {n : In B w} {v : Value} (hB : B ≤ w.heap.size)
    (h : Calls P f args n.val fun e w' => e = .returned v ∧ Below n.val.heap.size n.val w') : Calls P f args n.val fun e w'' => e = .returned v ∧ ∃ m : In B w, w'' = m.val :=
  h.mono fun _ w' ⟨he, hm⟩ => ⟨he, ⟨w', n.ok.trans (hm.mono (Nat.le_trans hB n.ok.size))⟩, rfl⟩
theorem any_take {α : Type} {l : List α} {f : α → Bool} {k : Nat} (h : k = l.length) (hf : (l.take k).any f = false) : l.any f = false := by
  rw [h, List.take_length] at hf
  exact hf
theorem Kt.facts {w V : World} {q : Nat} {most : Int} {sl sb : Value} {CL : List Cr} {T : List (Jb × Int)} {x c : Cr} {g k cp : Nat} (h : Kt w V #[.int .i64 x.j, .int .i64 x.e, .int .i64 x.s, .int .i64 x.f, .int .i64 x.u, .slice x.A x.n x.cap, .int .i64 x.c] q most sl sb CL T) (hk : CL[k]? = some c) (hs : sl = .slice (some ⟨g, 0, none⟩) CL.length cp) : V.cell? ⟨q, 1, none⟩ = some (.slice (some ⟨g, 0, none⟩) CL.length cp) ∧ V.cell? ⟨w.heap.size, 0, none⟩ = some (.int .i64 x.j) ∧ V.cell? ⟨w.heap.size, 1, none⟩ = some (.int .i64 x.e) ∧ V.cell? ⟨w.heap.size, 2, none⟩ = some (.int .i64 x.s) ∧ V.cell? ⟨w.heap.size, 3, none⟩ = some (.int .i64 x.f) ∧ V.cell? ⟨w.heap.size, 4, none⟩ = some (.int .i64 x.u) ∧ V.cell? ⟨w.heap.size, 5, none⟩ = some (.slice x.A x.n x.cap) ∧ V.cell? ⟨w.heap.size, 6, none⟩ = some (.int .i64 x.c) ∧ V.cell? ⟨g, k * 7, none⟩ = some (.int .i64 c.j) ∧ V.cell? ⟨g, k * 7 + 1, none⟩ = some (.int .i64 c.e) ∧ V.cell? ⟨g, k * 7 + 2, none⟩ = some (.int .i64 c.s) ∧ V.cell? ⟨g, k * 7 + 3, none⟩ = some (.int .i64 c.f) ∧ V.cell? ⟨g, k * 7 + 4, none⟩ = some (.int .i64 c.u) ∧ V.cell? ⟨g, k * 7 + 5, none⟩ = some (.slice c.A c.n c.cap) ∧ V.cell? ⟨g, k * 7 + 6, none⟩ = some (.int .i64 c.c) := by
  subst hs
  obtain ⟨g', cp', e, _, hc⟩ := h.ref.at_ hk
  cases e
  exact ⟨h.ref.blk.cell 1 _ rfl, h.box.cell 0 _ rfl, h.box.cell 1 _ rfl, h.box.cell 2 _ rfl, h.box.cell 3 _ rfl, h.box.cell 4 _ rfl, h.box.cell 5 _ rfl, h.box.cell 6 _ rfl, hc⟩
set_option maxRecDepth 100000 in
set_option maxHeartbeats 2000000 in
theorem kept_any {w : World} {q : Nat} {most : Int} {sl sb : Value} {CL : List Cr} {T : List (Jb × Int)} (h : RefAt w q most sl sb CL T) (x : Cr) (above : Int) (hL : CL.length ≤ 1000) :
    Calls Try.prog 25 #[.pointer (some ⟨q, 0, none⟩), .agg #[.int .i64 x.j, .int .i64 x.e, .int .i64 x.s, .int .i64 x.f, .int .i64 x.u, .slice x.A x.n x.cap, .int .i64 x.c], .int .i64 above] w fun e w' => e = .returned (.bool (keptB CL x above)) ∧ Below w.heap.size w w' := by
  have st : Kt w (w.alloc (.cells #[.int .i64 x.j, .int .i64 x.e, .int .i64 x.s, .int .i64 x.f, .int .i64 x.u, .slice x.A x.n x.cap, .int .i64 x.c] 31)) #[.int .i64 x.j, .int .i64 x.e, .int .i64 x.s, .int .i64 x.f, .int .i64 x.u, .slice x.A x.n x.cap, .int .i64 x.c] q most sl sb CL T := ⟨Bk.new _ _ _, h.next (below_alloc _ _), below_alloc _ _⟩
  clear h
  obtain ⟨A0, cp0, hsl⟩ := own_form st.ref.rl
  go_enter Try.func25, Try.ntmps25
  go_wp2_with fail
  generalize w.alloc (.cells #[.int .i64 x.j, .int .i64 x.e, .int .i64 x.s, .int .i64 x.f, .int .i64 x.u, .slice x.A x.n x.cap, .int .i64 x.c] 31) = V0 at *
  go_loopw [7] (fun i wr => ∃ k : Nat, k ≤ CL.length ∧ i = .int .i64 k ∧ Hid ((CL.take k).any (fun c => alikeB c x && decide (above < c.u)) = false) ∧ Kt w wr #[.int .i64 x.j, .int .i64 x.e, .int .i64 x.s, .int .i64 x.f, .int .i64 x.u, .slice x.A x.n x.cap, .int .i64 x.c] q most sl sb CL T) (fun i _ => CL.length - (intOf i).toNat)
  case atStart => exact ⟨0, Nat.zero_le _, rfl, Lib.hid (by simp), st⟩
  case round =>
    clear st
    obtain ⟨k, hk, rfl, HR, st⟩ := hrel
    have q1 : wr.cell? ⟨q, 1, none⟩ = some (.slice A0 CL.length cp0) := by rw [← hsl]; exact st.ref.blk.cell 1 _ rfl
    by_cases hlt : k < CL.length
    · obtain ⟨c, hc⟩ : ∃ c, CL[k]? = some c := ⟨_, List.getElem?_eq_getElem hlt⟩
      obtain ⟨g, cp, hs, hgl, _⟩ := st.ref.at_ hc
      rw [hsl] at hs
      cases hs
      have HC := Lib.hid hc
      have HF := Lib.hid (fun V (st : Kt w V #[.int .i64 x.j, .int .i64 x.e, .int .i64 x.s, .int .i64 x.f, .int .i64 x.u, .slice x.A x.n x.cap, .int .i64 x.c] q most sl sb CL T) => Kt.facts (g := g) (k := k) (cp := cp0) st hc hsl)
      have HS := Lib.hid hsl
      clear hc hsl
      have KA := Lib.hid (fun V => alike_any c x V)
      cases hal : alikeB c x
      · rw [hal] at KA
        go_wp2_with fail
        clear q1
        obtain ⟨f0, f1, f2, f3, f4, f5, f6, f7, f8, f9, f10, f11, f12, f13, f14⟩ := HF.out _ st
        have hqb := st.ref.blk.lt
        have hbb := st.box.lt
        replace f0 := In.cell (B := wr.heap.size) hqb f0
        replace f1 := In.cell (B := wr.heap.size) hbb f1
        replace f2 := In.cell (B := wr.heap.size) hbb f2
        replace f3 := In.cell (B := wr.heap.size) hbb f3
        replace f4 := In.cell (B := wr.heap.size) hbb f4
        replace f5 := In.cell (B := wr.heap.size) hbb f5
        replace f6 := In.cell (B := wr.heap.size) hbb f6
        replace f7 := In.cell (B := wr.heap.size) hbb f7
        replace f8 := In.cell (B := wr.heap.size) hgl f8
        replace f9 := In.cell (B := wr.heap.size) hgl f9
        replace f10 := In.cell (B := wr.heap.size) hgl f10
        replace f11 := In.cell (B := wr.heap.size) hgl f11
        replace f12 := In.cell (B := wr.heap.size) hgl f12
        replace f13 := In.cell (B := wr.heap.size) hgl f13
        replace f14 := In.cell (B := wr.heap.size) hgl f14
        have hIn := inNonempty wr.heap.size wr
        refine region_in wr.heap.size (by kernel_rfl) (by kernel_rfl) ?_
        repeat (go_big_quiet_step (first | (go_at_call 29; with_reducible exact Calls.in_of (Nat.le_refl _) (KA.out _))))
        refine wpQuiet_nil ?_
        intro w4 hb4
        replace st := st.next hb4
        clear f0 f1 f2 f3 f4 f5 f6 f7 f8 f9 f10 f11 f12 f13 f14 hIn hb4 hqb hbb
        all_goals
          go_wp2_with fail
          go_roundw
          case rel => exact ⟨k + 1, by omega, by go_num, Lib.hid (by rw [take_at HC.out, List.any_append, HR.out]; simp [hal]), st⟩
          case measure => simp [intOf]; omega
      · rw [hal] at KA
        by_cases hu : above < c.u
        · have tu : decide (above < c.u) = true := by simpa using hu
          have hh : keptB CL x above = true := by
            unfold keptB
            rw [List.any_eq_true]
            exact ⟨c, List.mem_of_getElem? HC.out, by simp [hal, hu]⟩
          have HH := Lib.hid hh
          clear hh
          go_wp2_with fail
          clear q1
          obtain ⟨f0, f1, f2, f3, f4, f5, f6, f7, f8, f9, f10, f11, f12, f13, f14⟩ := HF.out _ st
          have hqb := st.ref.blk.lt
          have hbb := st.box.lt
          replace f0 := In.cell (B := wr.heap.size) hqb f0
          replace f1 := In.cell (B := wr.heap.size) hbb f1
          replace f2 := In.cell (B := wr.heap.size) hbb f2
          replace f3 := In.cell (B := wr.heap.size) hbb f3
          replace f4 := In.cell (B := wr.heap.size) hbb f4
          replace f5 := In.cell (B := wr.heap.size) hbb f5
          replace f6 := In.cell (B := wr.heap.size) hbb f6
          replace f7 := In.cell (B := wr.heap.size) hbb f7
          replace f8 := In.cell (B := wr.heap.size) hgl f8
          replace f9 := In.cell (B := wr.heap.size) hgl f9
          replace f10 := In.cell (B := wr.heap.size) hgl f10
          replace f11 := In.cell (B := wr.heap.size) hgl f11
          replace f12 := In.cell (B := wr.heap.size) hgl f12
          replace f13 := In.cell (B := wr.heap.size) hgl f13
          replace f14 := In.cell (B := wr.heap.size) hgl f14
          have hIn := inNonempty wr.heap.size wr
          refine region_in wr.heap.size (by kernel_rfl) (by kernel_rfl) ?_
          repeat (go_big_quiet_step (first | (go_at_call 29; with_reducible exact Calls.in_of (Nat.le_refl _) (KA.out _))))
          refine wpQuiet_nil ?_
          intro w4 hb4
          replace st := st.next hb4
          clear f0 f1 f2 f3 f4 f5 f6 f7 f8 f9 f10 f11 f12 f13 f14 hIn hb4 hqb hbb
          all_goals
            go_wp2_with fail
            go_ret
            exact ⟨by rw [HH.out]; rfl, st.low⟩
        · have tu : decide (above < c.u) = false := by simpa using hu
          go_wp2_with fail
          clear q1
          obtain ⟨f0, f1, f2, f3, f4, f5, f6, f7, f8, f9, f10, f11, f12, f13, f14⟩ := HF.out _ st
          have hqb := st.ref.blk.lt
          have hbb := st.box.lt
          replace f0 := In.cell (B := wr.heap.size) hqb f0
          replace f1 := In.cell (B := wr.heap.size) hbb f1
          replace f2 := In.cell (B := wr.heap.size) hbb f2
          replace f3 := In.cell (B := wr.heap.size) hbb f3
          replace f4 := In.cell (B := wr.heap.size) hbb f4
          replace f5 := In.cell (B := wr.heap.size) hbb f5
          replace f6 := In.cell (B := wr.heap.size) hbb f6
          replace f7 := In.cell (B := wr.heap.size) hbb f7
          replace f8 := In.cell (B := wr.heap.size) hgl f8
          replace f9 := In.cell (B := wr.heap.size) hgl f9
          replace f10 := In.cell (B := wr.heap.size) hgl f10
          replace f11 := In.cell (B := wr.heap.size) hgl f11
          replace f12 := In.cell (B := wr.heap.size) hgl f12
          replace f13 := In.cell (B := wr.heap.size) hgl f13
          replace f14 := In.cell (B := wr.heap.size) hgl f14
          have hIn := inNonempty wr.heap.size wr
          refine region_in wr.heap.size (by kernel_rfl) (by kernel_rfl) ?_
          repeat (go_big_quiet_step (first | (go_at_call 29; with_reducible exact Calls.in_of (Nat.le_refl _) (KA.out _))))
          refine wpQuiet_nil ?_
          intro w4 hb4
          replace st := st.next hb4
          clear f0 f1 f2 f3 f4 f5 f6 f7 f8 f9 f10 f11 f12 f13 f14 hIn hb4 hqb hbb
          all_goals
            go_wp2_with fail
            go_roundw
            case rel => exact ⟨k + 1, by omega, by go_num, Lib.hid (by rw [take_at HC.out, List.any_append, HR.out]; simp [hal, hu]), st⟩
            case measure => simp [intOf]; omega
    · have hh : keptB CL x above = false := any_take (k := k) (by omega) HR.out
      have HH := Lib.hid hh
      clear hh
      go_wp2_with fail
      go_ret
      exact ⟨by rw [HH.out]; rfl, st.low⟩
set_option maxRecDepth 100000 in
set_option maxHeartbeats 2000000 in
theorem rused_any {w : World} {q : Nat} {most : Int} {sl sb : Value} {CL : List Cr} {T : List (Jb × Int)} (h : RefAt w q most sl sb CL T) (x : Cr) (above : Int) (hL : CL.length ≤ 1000) :
    Calls Try.prog 15 #[.pointer (some ⟨q, 0, none⟩), .agg #[.int .i64 x.j, .int .i64 x.e, .int .i64 x.s, .int .i64 x.f, .int .i64 x.u, .slice x.A x.n x.cap, .int .i64 x.c], .int .i64 above] w fun e w' => e = .returned (.bool (keptB CL x above)) ∧ Below w.heap.size w w' := by
  have hb0 := below_alloc w (.cells #[.int .i64 x.j, .int .i64 x.e, .int .i64 x.s, .int .i64 x.f, .int .i64 x.u, .slice x.A x.n x.cap, .int .i64 x.c] 31)
  have KK := Lib.hid (kept_any (h.next hb0) x above hL)
  go_enter Try.func15, Try.ntmps15
  go_wp2_with fail
  refine KK.out.mono ?_
  rintro e w2 ⟨rfl, hb⟩
  go_wp2_with fail
  go_ret
  exact ⟨rfl, bmore hb0 hb⟩
/-- Is it taken back, by the list? -/
def backB (T : List (Jb × Int)) (j e : Int) : Bool := T.any fun p => (p.1.n == j) && decide (e ≤ p.2)
set_option maxRecDepth 100000 in
set_option maxHeartbeats 2000000 in
theorem rrevoked_any {w : World} {q : Nat} {most : Int} {sl sb : Value} {CL : List Cr} {T : List (Jb × Int)} (h : RefAt w q most sl sb CL T) (x : Cr) (hL : T.length ≤ 1000) :
    Calls Try.prog 17 #[.pointer (some ⟨q, 0, none⟩), .agg #[.int .i64 x.j, .int .i64 x.e, .int .i64 x.s, .int .i64 x.f, .int .i64 x.u, .slice x.A x.n x.cap, .int .i64 x.c]] w fun e w' => e = .returned (.bool (backB T x.j x.e)) ∧ Below w.heap.size w w' := by
  have st : Kt w (w.alloc (.cells #[.int .i64 x.j, .int .i64 x.e, .int .i64 x.s, .int .i64 x.f, .int .i64 x.u, .slice x.A x.n x.cap, .int .i64 x.c] 31)) #[.int .i64 x.j, .int .i64 x.e, .int .i64 x.s, .int .i64 x.f, .int .i64 x.u, .slice x.A x.n x.cap, .int .i64 x.c] q most sl sb CL T := ⟨Bk.new _ _ _, h.next (below_alloc _ _), below_alloc _ _⟩
  clear h
  obtain ⟨A0, cp0, hsb⟩ := own_form st.ref.rb
  go_enter Try.func17, Try.ntmps17
  go_wp2_with fail
  generalize w.alloc (.cells #[.int .i64 x.j, .int .i64 x.e, .int .i64 x.s, .int .i64 x.f, .int .i64 x.u, .slice x.A x.n x.cap, .int .i64 x.c] 31) = V0 at *
  go_loopw [5] (fun i wr => ∃ k : Nat, k ≤ T.length ∧ i = .int .i64 k ∧ Hid ((T.take k).any (fun p => (p.1.n == x.j) && decide (x.e ≤ p.2)) = false) ∧ Kt w wr #[.int .i64 x.j, .int .i64 x.e, .int .i64 x.s, .int .i64 x.f, .int .i64 x.u, .slice x.A x.n x.cap, .int .i64 x.c] q most sl sb CL T) (fun i _ => T.length - (intOf i).toNat)
  case atStart => exact ⟨0, Nat.zero_le _, rfl, Lib.hid (by simp), st⟩
  case round =>
    clear st
    obtain ⟨k, hk, rfl, HR, st⟩ := hrel
    have q2 : wr.cell? ⟨q, 2, none⟩ = some (.slice A0 T.length cp0) := by rw [← hsb]; exact st.ref.blk.cell 2 _ rfl
    have b0 := st.box.cell 0 _ rfl
    have b1 := st.box.cell 1 _ rfl
    by_cases hlt : k < T.length
    · obtain ⟨y, hy⟩ : ∃ y, T[k]? = some y := ⟨_, List.getElem?_eq_getElem hlt⟩
      obtain ⟨g, cp, hs, hgl, d0, d1⟩ := st.ref.atT hy
      rw [hsb] at hs
      cases hs
      have HY := Lib.hid hy
      have HS := Lib.hid hsb
      clear hy hsb hgl
      cases hj : (y.1.n == x.j)
      · go_wp2_with fail
        go_quiet (fail)
        replace st : Kt w (wr.drewN nq) #[.int .i64 x.j, .int .i64 x.e, .int .i64 x.s, .int .i64 x.f, .int .i64 x.u, .slice x.A x.n x.cap, .int .i64 x.c] q most sl sb CL T := ⟨st.box, ⟨st.ref.blk, st.ref.rl, st.ref.rb, st.ref.ap⟩, ⟨st.low.os, st.low.tape, st.low.output, st.low.size, st.low.block⟩⟩
        generalize wr.drewN nq = w2 at *
        go_wp2_with fail
        go_roundw
        case rel => exact ⟨k + 1, by omega, by go_num, Lib.hid (by rw [take_at HY.out, List.any_append, HR.out]; simp [hj]), st⟩
        case measure => simp [intOf]; omega
      · by_cases hu : x.e ≤ y.2
        · have tu : decide (x.e ≤ y.2) = true := by simpa using hu
          have hh : backB T x.j x.e = true := by
            unfold backB
            rw [List.any_eq_true]
            exact ⟨y, List.mem_of_getElem? HY.out, by simp [hj, hu]⟩
          have HH := Lib.hid hh
          clear hh
          go_wp2_with fail
          go_quiet (fail)
          replace st : Kt w (wr.drewN nq) #[.int .i64 x.j, .int .i64 x.e, .int .i64 x.s, .int .i64 x.f, .int .i64 x.u, .slice x.A x.n x.cap, .int .i64 x.c] q most sl sb CL T := ⟨st.box, ⟨st.ref.blk, st.ref.rl, st.ref.rb, st.ref.ap⟩, ⟨st.low.os, st.low.tape, st.low.output, st.low.size, st.low.block⟩⟩
          generalize wr.drewN nq = w2 at *
          go_wp2_with fail
          go_ret
          exact ⟨by rw [HH.out]; rfl, st.low⟩
        · have tu : decide (x.e ≤ y.2) = false := by simpa using hu
          go_wp2_with fail
          go_quiet (fail)
          replace st : Kt w (wr.drewN nq) #[.int .i64 x.j, .int .i64 x.e, .int .i64 x.s, .int .i64 x.f, .int .i64 x.u, .slice x.A x.n x.cap, .int .i64 x.c] q most sl sb CL T := ⟨st.box, ⟨st.ref.blk, st.ref.rl, st.ref.rb, st.ref.ap⟩, ⟨st.low.os, st.low.tape, st.low.output, st.low.size, st.low.block⟩⟩
          generalize wr.drewN nq = w2 at *
          go_wp2_with fail
          go_roundw
          case rel => exact ⟨k + 1, by omega, by go_num, Lib.hid (by rw [take_at HY.out, List.any_append, HR.out]; simp [hj, hu]), st⟩
          case measure => simp [intOf]; omega
    · have hh : backB T x.j x.e = false := any_take (k := k) (by omega) HR.out
      have HH := Lib.hid hh
      clear hh
      go_wp2_with fail
      go_ret
      exact ⟨by rw [HH.out]; rfl, st.low⟩
end Go.Proofs.Ytiokpflciagdoaa
