/- cred: formRules, Check. -/
import Derived.Test.YtiokpflciagdoaaA2
namespace Go.Proofs.Ytiokpflciagdoaa
open Go.RowKit

attribute [local go_sem] run_store_fn
theorem undrew {B : Nat} {a w : World} (h : Below B a.drew w) : Below B a w := ⟨h.os, h.tape, h.output, h.size, h.block⟩

structure Bx where
  a : Nat
  b : Nat
  c : Nat
  n : Int
  l : Int
  m : Int
def Bx.at_ (x : Bx) (V : World) : Prop := Bk V x.a 3 #[.int .i64 x.n] ∧ Bk V x.b 3 #[.int .i64 x.l] ∧ Bk V x.c 3 #[.int .i64 x.m]
/-- What is known while the rules are laid: the credential's block, the rules' bounds. -/
structure Fr (w V : World) (cs : Array Value) (L : List Bx) : Prop where
  box : Bk V w.heap.size 31 cs
  out : ∀ x ∈ L, x.at_ V
  low : Below w.heap.size w V
theorem Fr.next {w V V' : World} {cs : Array Value} {L : List Bx} (h : Fr w V cs L) (hb : Below V.heap.size V V') : Fr w V' cs L :=
  ⟨h.box.next hb, fun x hx => ⟨(h.out x hx).1.next hb, (h.out x hx).2.1.next hb, (h.out x hx).2.2.next hb⟩, h.low.trans (hb.mono h.low.size)⟩
theorem Fr.push {w V : World} {cs : Array Value} {L : List Bx} (h : Fr w V cs L) {a b c : Nat} {n l m : Int} (ha : Bk V a 3 #[.int .i64 n]) (hb : Bk V b 3 #[.int .i64 l]) (hc : Bk V c 3 #[.int .i64 m]) : Fr w V cs (⟨a, b, c, n, l, m⟩ :: L) :=
  ⟨h.box, fun x hx => by
    rcases List.mem_cons.1 hx with rfl | hx
    · exact ⟨ha, hb, hc⟩
    · exact h.out x hx, h.low⟩
theorem Fr.drew {w V : World} {cs : Array Value} {L : List Bx} (h : Fr w V cs L) : Fr w V.drew cs L := ⟨h.box, h.out, h.low.drew⟩

theorem Fr.cells {w V : World} {L : List Bx} {a0 a1 a2 a3 a4 a5 a6 : Value} (h : Fr w V #[a0, a1, a2, a3, a4, a5, a6] L) : V.cell? ⟨w.heap.size, 0, none⟩ = some a0 ∧ V.cell? ⟨w.heap.size, 1, none⟩ = some a1 ∧ V.cell? ⟨w.heap.size, 2, none⟩ = some a2 ∧ V.cell? ⟨w.heap.size, 3, none⟩ = some a3 ∧ V.cell? ⟨w.heap.size, 4, none⟩ = some a4 ∧ V.cell? ⟨w.heap.size, 5, none⟩ = some a5 ∧ V.cell? ⟨w.heap.size, 6, none⟩ = some a6 :=
  ⟨h.box.cell 0 _ rfl, h.box.cell 1 _ rfl, h.box.cell 2 _ rfl, h.box.cell 3 _ rfl, h.box.cell 4 _ rfl, h.box.cell 5 _ rfl, h.box.cell 6 _ rfl⟩

/-- Which of the rules hold. -/
def rl (j e s f u c : Int) (n : Nat) (zs : List Int) : Nat → Bool
  | 0 => outB j 0 1099511627776
  | 1 => outB e 0 8
  | 2 => outB s 0 1099511627776
  | 3 => outB f 0 1099511627776
  | 4 => outB u 0 1099511627776
  | 5 => outB c 1 256
  | 6 => outB n 1 16
  | _ => !rises (-1) zs
/-- Rules in memory. -/
def RulesAt (w : World) (g : Nat) (r : Nat → Bool) : Prop :=
  ∃ (f : Nat → Nat) (caps : Nat → Array Value), g < w.heap.size ∧ (∀ i, i < 8 → f i = 37 ∨ f i = 35) ∧
    (∀ i, i < 8 → w.cell? ⟨g, i * 2, none⟩ = some (.int .i64 1) ∧ w.cell? ⟨g, i * 2 + 1, none⟩ = some (.func (.func (f i)) #[] (caps i))) ∧
    ∀ i, i < 8 → (∀ j, j < i → r j = false) → ∀ V, Below w.heap.size w V → Calls Try.prog (f i) (caps i) V fun x w' => x = .returned (.bool (r i)) ∧ Below V.heap.size V w'
def Bx.cp (x : Bx) : Array Value := #[.pointer (some ⟨x.a, 0, none⟩), .pointer (some ⟨x.b, 0, none⟩), .pointer (some ⟨x.c, 0, none⟩)]
theorem Bx.calls {x : Bx} {V : World} (h : x.at_ V) : Calls Try.prog 37 x.cp V fun e w' => e = .returned (.bool (outB x.n x.l x.m)) ∧ Below V.heap.size V w' :=
  (out_any x.n x.l x.m x.a x.b x.c V h.1 h.2.1 h.2.2).mono fun _ _ ⟨he, hw⟩ => ⟨he, by subst hw; exact Below.refl _ _⟩
theorem rules_done {j e s f u : Int} {A : Option Addr} {n cap : Nat} {c : Int} {zs : List Int} {w V W : World} {x0 x1 x2 x3 x4 x5 x6 : Bx} {t : TypeId}
    (st : Fr w V #[.int .i64 j, .int .i64 e, .int .i64 s, .int .i64 f, .int .i64 u, .slice A n cap, .int .i64 c] [x6, x5, x4, x3, x2, x1, x0]) (hz : IntsAt w A zs) (hn : zs.length = n) (hm : n ≤ maxLen)
    (h0 : outB x0.n x0.l x0.m = outB j 0 1099511627776) (h1 : outB x1.n x1.l x1.m = outB e 0 8) (h2 : outB x2.n x2.l x2.m = outB s 0 1099511627776) (h3 : outB x3.n x3.l x3.m = outB f 0 1099511627776) (h4 : outB x4.n x4.l x4.m = outB u 0 1099511627776) (h5 : outB x5.n x5.l x5.m = outB c 1 256) (h6 : outB x6.n x6.l x6.m = outB n 1 16)
    (hW : W = V.alloc (.cells #[.int .i64 1, .func (.func 37) #[] x0.cp, .int .i64 1, .func (.func 37) #[] x1.cp, .int .i64 1, .func (.func 37) #[] x2.cp, .int .i64 1, .func (.func 37) #[] x3.cp, .int .i64 1, .func (.func 37) #[] x4.cp, .int .i64 1, .func (.func 37) #[] x5.cp, .int .i64 1, .func (.func 37) #[] x6.cp, .int .i64 1, .func (.func 35) #[] #[.pointer (some ⟨w.heap.size, 0, none⟩)]] t)) :
    RulesAt W V.heap.size (rl j e s f u c n zs) ∧ Below w.heap.size w W := by
  have hb : Below V.heap.size V W := by rw [hW]; exact below_alloc _ _
  have k := Bk.new V t #[.int .i64 1, .func (.func 37) #[] x0.cp, .int .i64 1, .func (.func 37) #[] x1.cp, .int .i64 1, .func (.func 37) #[] x2.cp, .int .i64 1, .func (.func 37) #[] x3.cp, .int .i64 1, .func (.func 37) #[] x4.cp, .int .i64 1, .func (.func 37) #[] x5.cp, .int .i64 1, .func (.func 37) #[] x6.cp, .int .i64 1, .func (.func 35) #[] #[.pointer (some ⟨w.heap.size, 0, none⟩)]]
  rw [← hW] at k
  have st' := st.next hb
  clear hW
  refine ⟨⟨fun i => if i < 7 then 37 else 35, fun i => [x0.cp, x1.cp, x2.cp, x3.cp, x4.cp, x5.cp, x6.cp, #[.pointer (some ⟨w.heap.size, 0, none⟩)]].getD i #[], k.lt, fun i _ => by by_cases h : i < 7 <;> simp [h], ?_, ?_⟩, st'.low⟩
  · intro i hi
    match i, hi with
    | 0, _ => exact ⟨k.cell 0 _ rfl, k.cell 1 _ rfl⟩
    | 1, _ => exact ⟨k.cell 2 _ rfl, k.cell 3 _ rfl⟩
    | 2, _ => exact ⟨k.cell 4 _ rfl, k.cell 5 _ rfl⟩
    | 3, _ => exact ⟨k.cell 6 _ rfl, k.cell 7 _ rfl⟩
    | 4, _ => exact ⟨k.cell 8 _ rfl, k.cell 9 _ rfl⟩
    | 5, _ => exact ⟨k.cell 10 _ rfl, k.cell 11 _ rfl⟩
    | 6, _ => exact ⟨k.cell 12 _ rfl, k.cell 13 _ rfl⟩
    | 7, _ => exact ⟨k.cell 14 _ rfl, k.cell 15 _ rfl⟩
  · intro i hi _ U hU
    have sU := st'.next hU
    match i, hi with
    | 0, _ => show Calls _ 37 x0.cp U (fun x w' => x = .returned (.bool (outB j 0 1099511627776)) ∧ _); rw [← h0]; exact Bx.calls (sU.out x0 (by simp))
    | 1, _ => show Calls _ 37 x1.cp U (fun x w' => x = .returned (.bool (outB e 0 8)) ∧ _); rw [← h1]; exact Bx.calls (sU.out x1 (by simp))
    | 2, _ => show Calls _ 37 x2.cp U (fun x w' => x = .returned (.bool (outB s 0 1099511627776)) ∧ _); rw [← h2]; exact Bx.calls (sU.out x2 (by simp))
    | 3, _ => show Calls _ 37 x3.cp U (fun x w' => x = .returned (.bool (outB f 0 1099511627776)) ∧ _); rw [← h3]; exact Bx.calls (sU.out x3 (by simp))
    | 4, _ => show Calls _ 37 x4.cp U (fun x w' => x = .returned (.bool (outB u 0 1099511627776)) ∧ _); rw [← h4]; exact Bx.calls (sU.out x4 (by simp))
    | 5, _ => show Calls _ 37 x5.cp U (fun x w' => x = .returned (.bool (outB c 1 256)) ∧ _); rw [← h5]; exact Bx.calls (sU.out x5 (by simp))
    | 6, _ => show Calls _ 37 x6.cp U (fun x w' => x = .returned (.bool (outB n 1 16)) ∧ _); rw [← h6]; exact Bx.calls (sU.out x6 (by simp))
    | 7, _ =>
      have hzU : IntsAt U A zs := hz.next sU.low
      exact (nodes_any j e s f u A n cap c w.heap.size zs U sU.box hzU hn hm).mono fun _ _ ⟨he, hw⟩ => ⟨he, by subst hw; exact Below.refl _ _⟩

set_option maxRecDepth 100000 in
set_option maxHeartbeats 2000000 in
theorem rules_any (j e s f u : Int) (A : Option Addr) (n cap : Nat) (c : Int) (zs : List Int) (w : World) (hz : IntsAt w A zs) (hn : zs.length = n) (hm : n ≤ maxLen) :
    Calls Try.prog 31 #[.agg #[.int .i64 j, .int .i64 e, .int .i64 s, .int .i64 f, .int .i64 u, .slice A n cap, .int .i64 c]] w fun x w' => ∃ g, x = .returned (.slice (some ⟨g, 0, none⟩) 8 8) ∧ RulesAt w' g (rl j e s f u c n zs) ∧ Below w.heap.size w w' := by
  have HD := Lib.hid (fun V W x0 x1 x2 x3 x4 x5 x6 t st => @rules_done j e s f u A n cap c zs w V W x0 x1 x2 x3 x4 x5 x6 t st hz hn hm)
  clear hz hn hm
  have st : Fr w (w.alloc (.cells #[.int .i64 j, .int .i64 e, .int .i64 s, .int .i64 f, .int .i64 u, .slice A n cap, .int .i64 c] 31)) #[.int .i64 j, .int .i64 e, .int .i64 s, .int .i64 f, .int .i64 u, .slice A n cap, .int .i64 c] [] :=
    ⟨Bk.new _ _ _, (by simp), below_alloc _ _⟩
  go_enter Try.func31, Try.ntmps31
  go_wp2_with fail
  generalize w.alloc (.cells #[.int .i64 j, .int .i64 e, .int .i64 s, .int .i64 f, .int .i64 u, .slice A n cap, .int .i64 c] 31) = V at *
  go_region_held3 (fun W => W.cell? ⟨w.heap.size, 0, none⟩ = some (.int .i64 j) ∧ W.cell? ⟨w.heap.size, 1, none⟩ = some (.int .i64 e) ∧ W.cell? ⟨w.heap.size, 2, none⟩ = some (.int .i64 s) ∧ W.cell? ⟨w.heap.size, 3, none⟩ = some (.int .i64 f) ∧ W.cell? ⟨w.heap.size, 4, none⟩ = some (.int .i64 u) ∧ W.cell? ⟨w.heap.size, 5, none⟩ = some (.slice A n cap) ∧ W.cell? ⟨w.heap.size, 6, none⟩ = some (.int .i64 c))
    (first | exact st.cells | exact (st.next (below_alloc _ _)).cells)
    (first | (go_at_call 34; refine (outside_any _ _ _ _).mono ?_; rintro x wn ⟨_, _, _, rfl, ka, kb, kc, hbn⟩; (first | replace hbn := undrew hbn | skip); replace st := (st.next hbn).push ka kb kc; clear hbn ka kb kc))
  all_goals
    go_wp2_with fail
    go_ret
    obtain ⟨q1, q2⟩ := HD.out _ _ _ _ _ _ _ _ _ _ st rfl rfl rfl rfl rfl rfl rfl rfl
    exact ⟨_, rfl, q1, q2⟩

/-- May the credential be? -/
def chk (j e s f u c : Int) (n : Nat) (zs : List Int) : Bool := !anyB (rl j e s f u c n zs) 8
theorem check_any (j e s f u : Int) (A : Option Addr) (n cap : Nat) (c : Int) (zs : List Int) (w : World) (hz : IntsAt w A zs) (hn : zs.length = n) (hm : n ≤ maxLen) :
    Calls Try.prog 26 #[.agg #[.int .i64 j, .int .i64 e, .int .i64 s, .int .i64 f, .int .i64 u, .slice A n cap, .int .i64 c]] w fun x w' => x = .returned (.int .i64 (oneIf (!chk j e s f u c n zs))) ∧ Below w.heap.size w w' := by
  unfold chk
  rw [Bool.not_not]
  have K := Lib.hid (rules_any j e s f u A n cap c zs (w.alloc (.cells #[.int .i64 j, .int .i64 e, .int .i64 s, .int .i64 f, .int .i64 u, .slice A n cap, .int .i64 c] 31)) (hz.next (below_alloc _ _)) hn hm)
  clear hn
  have hb0 := below_alloc w (.cells #[.int .i64 j, .int .i64 e, .int .i64 s, .int .i64 f, .int .i64 u, .slice A n cap, .int .i64 c] 31)
  go_enter Try.func26, Try.ntmps26
  go_wp2_with fail
  refine K.out.mono ?_
  rintro x w1 ⟨g, rfl, hR, hb⟩
  replace hb0 := bmore hb0 hb
  clear hb
  have HR := Lib.hid hR
  clear hR
  go_wp2_with fail
  obtain ⟨ff, caps, h1, h2, h3, h4⟩ := HR.out
  refine (first_any g ff caps _ _ h1 h2 h3 h4).mono ?_
  rintro x w2 ⟨rfl, hb⟩
  go_wp2_with fail
  go_ret
  exact ⟨rfl, bmore hb0 hb⟩
end Go.Proofs.Ytiokpflciagdoaa
