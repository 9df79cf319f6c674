/- Proved: for every layout, every number of a distribution, and every number of a core, CoresTell answers true (Check, All, Socket and Order tell what the document says, and the document's examples hold), and the arguments read as they did.
   Conditions: none beyond the row's own (arguments that can be read). -/
import Derived.Test.YteggadafcedojaaL4
import Derived.Test.YteggadafcedojaaP1
namespace Go.Proofs.Yteggadafcedojaa
open Go.ChangeShapes Go.WideShapes Go.ChangeAt Go.RowKit Go.Joins

set_option maxRecDepth 100000 in
set_option maxHeartbeats 400000 in
theorem socket_bad (s p c : Int) (w : World) (h : LBad s p) :
    Calls Try.prog 15 #[.agg #[.int .i64 s, .int .i64 p], .int .i64 c] w fun e w' => e = .returned (.int .i64 (-1)) ∧ Below w.heap.size w w' := by
  have H := Lib.hid h
  clear h
  have HF : ∀ W, Calls Try.prog 34 #[.agg (vs .u64 Mk.zero), .int .i64 c] W fun e w' => e = .returned (.bool false) ∧ Below W.heap.size W w' := by
    intro W
    by_cases h0 : c < 0 ∨ 256 ≤ c
    · exact has_no _ c W h0
    · obtain ⟨c, rfl⟩ := Int.eq_ofNat_of_zero_le (show 0 ≤ c by omega)
      have := has_in Mk.zero c W Mk.W4.zero (by omega)
      rw [Mk.has_zero] at this
      exact this
  have HF' := Lib.hid HF
  clear HF
  have hb0 := (Below.refl _ w).alloc (Nat.le_refl _) (.cells #[.int .i64 s, .int .i64 p] 28)
  go_enter Try.func15, Try.ntmps15
  go_wp2_with fail
  refine (call_bad s p _ H.out).mono ?_
  rintro e w2 ⟨rfl, hb2⟩
  replace hb0 := bmore hb0 hb2
  clear hb2
  go_wp2_with fail
  refine (HF'.out _).mono ?_
  rintro e w3 ⟨rfl, hb3⟩
  replace hb0 := bmore hb0 hb3
  clear hb3
  go_wp2_with fail
  go_ret
  exact ⟨rfl, hb0⟩

theorem told_none {f : Nat} {args : Array Value} (h : ∀ W, Calls Try.prog f args W fun e w' => e = .returned (.tuple #[.slice none 0 0, .int .i64 1]) ∧ Below W.heap.size W w') (W : World) : Calls Try.prog f args W (Told W [] 0 1) :=
  (h W).mono fun _ _ ⟨he, hb⟩ => ⟨none, 0, he, .inl rfl, hb⟩
theorem told_order {d : Int} {fid s p : Nat} {of : Nat → Nat} (hd : IsDist d fid s p of) (h : LOk s p) (W : World) : Calls Try.prog 8 #[.agg #[.int .i64 s, .int .i64 p], .int .i64 d] W (Told W ((List.range (s * p)).map of) (s * p) 0) := by
  refine (order_ok hd W h).mono ?_
  rintro e w' ⟨v, rfl, hrow, hb⟩
  rw [upto_length] at hrow
  obtain ⟨A, ca, rfl⟩ := own_form hrow
  have hA : NatsAt w' w'.heap.size A ((upto of (s * p)).map (·.1)) := nats_whole (by rw [upto_length]; exact hrow)
  rw [dist_vals hd h] at hA
  exact ⟨A, ca, rfl, hA, hb⟩
theorem told_given {f : Nat} {args : Array Value} {zs : List Nat} {n : Nat} (hn : zs.length = n) (h : ∀ W, Calls Try.prog f args W (GivesN W zs n)) (W : World) : Calls Try.prog f args W (Told W zs n 0) := by
  refine (h W).mono ?_
  rintro e w' ⟨v, rfl, hrow, hb⟩
  obtain ⟨A, ca, rfl⟩ := own_form hrow
  exact ⟨A, ca, rfl, nats_nv hn hrow, hb⟩
theorem told_ref {d : Int} {fid s p : Nat} {of : Nat → Nat} (hd : IsDist d fid s p of) (h : LOk s p) (W : World) : Calls Try.prog 10 #[.agg #[.int .i64 s, .int .i64 p], .int .i64 d] W (Told W ((List.range (s * p)).map of) (s * p) 0) := by
  rcases hd with ⟨rfl, _, rfl⟩ | ⟨rfl, _, rfl⟩
  · exact told_given (by simp) (fun W => rOrder_block s p W h) W
  · exact told_given (by simp) (fun W => rOrder_cyclic s p W h) W
theorem all4 (s p : Int) (n : Nat) (hn : n ≤ 256) (hc : ∀ W, Calls Try.prog 30 #[.agg #[.int .i64 s, .int .i64 p]] W fun e w' => e = .returned (.int .i64 (n : Int)) ∧ Below W.heap.size W w') (w : World) :
    Calls Try.prog 17 #[.agg #[.int .i64 s, .int .i64 p]] w fun e w' => e = .returned (.agg #[.int .u64 (Mk.nth (Mk.ofL (List.range n)) 0 : Nat), .int .u64 (Mk.nth (Mk.ofL (List.range n)) 1 : Nat), .int .u64 (Mk.nth (Mk.ofL (List.range n)) 2 : Nat), .int .u64 (Mk.nth (Mk.ofL (List.range n)) 3 : Nat)]) ∧ Below w.heap.size w w' := by
  have := rLayAll s p n w hn hc
  rw [vs4 (range_W4 hn).1] at this
  exact this

theorem coresTell_lay {d c er : Int} {s p : Nat} {xs : List Nat} {n : Nat} (h : LOk s p) (hn : xs.length = n) (hl : n ≤ 65536) (w : World)
    (O1 : ∀ W, Calls Try.prog 8 #[.agg #[.int .i64 s, .int .i64 p], .int .i64 d] W (Told W xs n er)) (O2 : ∀ W, Calls Try.prog 10 #[.agg #[.int .i64 s, .int .i64 p], .int .i64 d] W (Told W xs n er)) :
    Calls Try.prog 3 #[.agg #[.int .i64 s, .int .i64 p], .int .i64 d, .int .i64 c] w fun e w' => e = .returned (.bool true) ∧ Below w.heap.size w w' := by
  by_cases hc : c < 0 ∨ ((s * p : Nat) : Int) ≤ c
  · refine coresTell_by s p d c er 0 (-1) xs n _ _ _ _ w hn hl O1 O2 (fun W => check_ok s p W h) (fun W => rCheck_ok s p W h) (fun W => socket_out s p c W h (by simpa using hc)) ?_ (fun W => call_ok4 s p W h) (fun W => all4 s p (s * p) h.2.2.2.2 (fun W => rCount_ok s p W h) W)
    intro W
    rcases hc with hc | hc
    · exact rSocket_low s p c W hc
    · exact rSocket_high s p c _ W (by omega) hc (fun W => rCount_ok s p W h)
  · obtain ⟨c, rfl⟩ := Int.eq_ofNat_of_zero_le (show 0 ≤ c by omega)
    have hc2 : c < s * p := by omega
    exact coresTell_by s p d c er 0 _ xs n _ _ _ _ w hn hl O1 O2 (fun W => check_ok s p W h) (fun W => rCheck_ok s p W h) (fun W => socket_in s p c W h hc2) (fun W => rSocket_in s p c W h hc2) (fun W => call_ok4 s p W h) (fun W => all4 s p (s * p) h.2.2.2.2 (fun W => rCount_ok s p W h) W)

theorem coresTell_any (s p d c : Int) (w : World) : Calls Try.prog 3 #[.agg #[.int .i64 s, .int .i64 p], .int .i64 d, .int .i64 c] w fun e w' => e = .returned (.bool true) ∧ Below w.heap.size w w' := by
  rcases LOk_or s p with ⟨a, b, rfl, rfl, h⟩ | h
  · rcases dist_or d a b with ⟨fid, of, hd⟩ | ⟨h0, h1⟩
    · exact coresTell_lay h (by simp) (Nat.le_trans h.2.2.2.2 (by decide)) w (told_order hd h) (told_ref hd h)
    · have hd : d < 0 ∨ 1 < d := by
        have e0 : d ≠ 0 := by simpa using h0
        have e1 : d ≠ 1 := by simpa using h1
        omega
      exact coresTell_lay h (xs := []) (n := 0) rfl (by decide) w (told_none fun W => order_no _ _ d W fun W => dist_none a b d W h h0 h1) (told_none fun W => rOrder_none a b d W h hd)
  · refine coresTell_by s p d c 1 1 (-1) [] 0 0 0 0 0 w rfl (by decide) (told_none fun W => order_no s p d W fun W => dist_bad s p d W h) (told_none fun W => rOrder_bad s p d W h) (fun W => check_bad s p W h) (fun W => rCheck_bad s p W h) (fun W => socket_bad s p c W h) ?_ (fun W => call_bad s p W h) (fun W => all4 s p 0 (by decide) (fun W => rCount_bad s p W h) W)
    intro W
    by_cases hc : c < 0
    · exact rSocket_low s p c W hc
    · exact rSocket_high s p c 0 W (by omega) (by omega) (fun W => rCount_bad s p W h)

set_option maxRecDepth 100000 in
set_option maxHeartbeats 2000000 in
theorem coresTell_lifted (os : Os) (started : os.Started) (H : Type) (enc : TypeId × Value → H) :
    ReturnsInHanded {} Try.checked os 3 .any (Rows.coresTellSpec.pre6 enc Try.prog Try.f3 Rows.coresTellRow.domain false) (Rows.coresTellSpec.post enc Try.prog Try.f3 false true false false) := by
  refine returnsInHanded_of_change (C := Try.checked) own started (by kernel_rfl) Try.func3
    (ChangeSpec.witness6 (enc := enc) (C := Try.checked) false ⟨#[], #[.agg #[.int .i64 0, .int .i64 0], .int .i64 0, .int .i64 0], []⟩ 8 (by kernel_rfl) (by kernel_rfl) (by kernel_rfl) (by kernel_rfl)) ?_
  intro W base args ds gs before hval0 hW _ _
  have hval : ∀ (j : Nat) t v, Try.f3.params[j]? = some t → args[j]? = some v → Value.okWide Try.prog W .any base t v := hval0
  have hW' := hW
  obtain ⟨p, q, hA0, hV, rfl, hfz, hnd⟩ := hW
  have hA : DataW.TrodAll enc Try.prog W 0 (fun _ => true) true Try.f3.params.toList args.toList ds p := hA0
  rw [Try.params3] at hA hval
  obtain ⟨v0, vs0, d0, ds0, p0, q0, hargs, rfl, rfl, h0, r0⟩ := trodAll_cons hA
  obtain ⟨v1, vs1, d1, ds1, p1, q1, rfl, rfl, rfl, h1, r1⟩ := trodAll_cons r0
  obtain ⟨v2, vs2, d2, ds2, p2, q2, rfl, rfl, rfl, h2, r2⟩ := trodAll_cons r1
  obtain ⟨rfl, rfl, rfl⟩ := trodAll_nil r2
  obtain rfl : args = #[v0, v1, v2] := by cases args; simp_all
  obtain ⟨rfl, rfl⟩ := trodVars_none hV
  obtain ⟨s0, t0, rfl, rfl, rfl, ws0, wt0⟩ := open_lay (hval 0 23 v0 rfl rfl) h0
  obtain ⟨n1, rfl, rfl, rfl, wn1⟩ := open_int Try.underlying3 (hval 1 3 v1 rfl rfl) h1
  obtain ⟨n2, rfl, rfl, rfl, wn2⟩ := open_int Try.underlying3 (hval 2 3 v2 rfl rfl) h2
  clear hA0 hA hval0
  simp only [List.append_nil] at hW'
  refine (coresTell_any s0 t0 n1 n2 W).mono fun e W' ⟨he, hg⟩ => ?_
  subst he
  exact ⟨_, rfl, answer (vals := [.agg #[.int .i64 s0, .int .i64 t0], .int .i64 n1, .int .i64 n2]) rfl rfl (by kernel_rfl) rfl rfl rfl hW' (fun q => (trodAll_cons_mk (shut_lay ws0 wt0) (trodAll_cons_mk (shut_int Try.underlying3 wn1) (trodAll_cons_mk (shut_int Try.underlying3 wn2) trodAll_mk0)))) hg⟩

theorem coresTell_holds : Rows.CoresTellSaid :=
  OpenClaim.holds_of_wide 3 Try.f3 rfl rfl rfl rfl rfl rfl rfl ⟨rfl, rfl, rfl, rfl, rfl⟩ rfl rfl rfl rfl rfl (by kernel_rfl) Try.func3 (by kernel_rfl)
    (of_decide_eq_true (by kernel_rfl)) (by unfold Func.isWrapper; rw [if_neg (by decide +kernel)]; exact ⟨rfl, rfl⟩)
    (fun os started H enc _ => coresTell_lifted os started H enc)
#print axioms coresTell_holds

end Go.Proofs.Yteggadafcedojaa
