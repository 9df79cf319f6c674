/- Proved: for every most, script and credential, ReplayRoom answers true (a cache never keeps more than its most; behind all Untils each credential that lasts is taken, and is the one that is kept; and the document's examples hold), and the arguments read as they did.
   Conditions: none beyond the row's own (arguments that can be read). -/
import Derived.Test.YtiokpflciagdoaaR1
import Derived.Test.YtiokpflciagdoaaS3
import Derived.Test.YtiokpflciagdoaaP2
namespace Go.Proofs.Ytiokpflciagdoaa
open Go.ChangeShapes Go.WideShapes Go.ChangeAt Go.RowKit Go.Joins

theorem replayRoom_any (most : Int) (A : Option Addr) (n cap : Nat) (os : List OpR) (x : Cr) (w : World) (hs : ScriptAt w A os) (hn : os.length = n) (hm : n ≤ maxLen) (hx : CrAt w x) :
    Calls Try.prog 7 #[.int .i64 most, .slice A n cap, .agg #[.int .i64 x.j, .int .i64 x.e, .int .i64 x.s, .int .i64 x.f, .int .i64 x.u, .slice x.A x.n x.cap, .int .i64 x.c]] w fun e w' => e = .returned (.bool true) ∧ Below w.heap.size w w' := by
  cases hsm : smallB os 60
  · exact room_big most A n cap os x w hs hn hm hx hsm
  · by_cases h20 : x.n ≤ 20
    · by_cases hmo : most < 1 ∨ 64 < most
      · exact room_none most A n cap os x w hs hn hm hx hsm h20 hmo
      · exact room_go most A n cap os x w hs hn hm hx hsm h20 (by omega) (by omega) (fun V hV => rcheck_any x.j x.e x.s x.f x.u x.A x.n x.cap x.c x.zs V (hx.ints.next hV) hx.len)
    · exact room_long most A n cap os x w hs hn hm hx hsm (by omega)

set_option maxRecDepth 100000 in
set_option maxHeartbeats 2000000 in
theorem replayRoom_lifted (os : Os) (started : os.Started) (H : Type) (enc : TypeId × Value → H) :
    ReturnsInHanded {} Try.checked os 7 .any (Rows.replayRoomSpec.pre6 enc Try.prog Try.f7 Rows.replayRoomRow.domain false) (Rows.replayRoomSpec.post enc Try.prog Try.f7 false true false false) := by
  refine returnsInHanded_of_change (C := Try.checked) own started (by kernel_rfl) Try.func7
    (ChangeSpec.witness6 (enc := enc) (C := Try.checked) false ⟨#[], #[.int .i64 0, .slice none 0 0, .agg #[.int .i64 0, .int .i64 0, .int .i64 0, .int .i64 0, .int .i64 0, .slice none 0 0, .int .i64 0]], []⟩ 8 (by kernel_rfl) (by kernel_rfl) (by kernel_rfl) (by kernel_rfl)) ?_
  intro W base args ds gs before hval0 hW _ _
  have hval : ∀ (j : Nat) t v, Try.f7.params[j]? = some t → args[j]? = some v → Value.okWide Try.prog W .any base t v := hval0
  have hW' := hW
  obtain ⟨p, q, hA0, hV, rfl, hfz, hnd⟩ := hW
  have hA : DataW.TrodAll enc Try.prog W 0 (fun _ => true) true Try.f7.params.toList args.toList ds p := hA0
  rw [Try.params7] at hA hval
  obtain ⟨v0, vs0, d0, ds0, p0, q0, hargs, rfl, rfl, h0, r0⟩ := trodAll_cons hA
  obtain ⟨v1, vs1, d1, ds1, p1, q1, rfl, rfl, rfl, h1, r1⟩ := trodAll_cons r0
  obtain ⟨v2, vs2, d2, ds2, p2, q2, rfl, rfl, rfl, h2, r2⟩ := trodAll_cons r1
  obtain ⟨rfl, rfl, rfl⟩ := trodAll_nil r2
  obtain rfl : args = #[v0, v1, v2] := by cases args; simp_all
  obtain ⟨rfl, rfl⟩ := trodVars_none hV
  obtain ⟨m, rfl, rfl, rfl, wm⟩ := open_int Try.underlying3 (hval 0 3 v0 rfl rfl) h0
  obtain ⟨A, n, cap, l, rfl, hn, hc, hm, hs⟩ := open_scr (hval 1 22 v1 rfl rfl) h1
  obtain ⟨x, rfl, hx⟩ := open_cred (hval 2 31 v2 rfl rfl) h2
  clear hA0 hA hval0
  refine (replayRoom_any m A n cap l x W hs hn hm hx).mono fun e W' ⟨he, hg⟩ => ?_
  subst he
  exact ⟨_, rfl, answerAll rfl (by kernel_rfl) rfl rfl rfl (by kernel_rfl) hW' hg⟩

theorem replayRoom_holds : Rows.ReplayRoomSaid :=
  OpenClaim.holds_of_wide 7 Try.f7 rfl rfl rfl rfl rfl rfl rfl ⟨rfl, rfl, rfl, rfl, rfl⟩ rfl rfl rfl rfl rfl (by kernel_rfl) Try.func7 (by kernel_rfl)
    (of_decide_eq_true (by kernel_rfl)) (by unfold Func.isWrapper; rw [if_neg (by decide +kernel)]; exact ⟨rfl, rfl⟩)
    (fun os started H enc _ => replayRoom_lifted os started H enc)
#print axioms replayRoom_holds
end Go.Proofs.Ytiokpflciagdoaa
