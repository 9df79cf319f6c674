/- Nothing comes that was not sent. -/
import Derived.Test.YtlhfijjjfolldaaB3
namespace Go.Proofs.Ytlhfijjjfolldaa
open Go.RowKit Go.Maps

/-- What the numbers are, behind i calls. -/
structure Nb (i : Nat) (L S : List Str) (k came made : Int) : Prop where
  mem : ∀ s ∈ L, s ∈ S
  sum : made = came + k + (L.length : Int)
  k0 : 0 ≤ k
  c0 : 0 ≤ came
  big : made ≤ 51 * (i : Int)
  few : S.length ≤ 50 * i
theorem Nb.start : Nb 0 [] [] 0 0 0 := ⟨fun _ h => h, rfl, by omega, by omega, by omega, by simp⟩
theorem Nb.idle {i : Nat} {L S : List Str} {k came made : Int} (h : Nb i L S k came made) : Nb (i + 1) L S k came made := ⟨h.mem, h.sum, h.k0, h.c0, by have := h.big; omega, by have := h.few; omega⟩
theorem Nb.send {i : Nat} {L S zs : List Str} {k came made : Int} (h : Nb i L S k came made) (hz : zs.length ≤ 50) (m : Int) :
    Nb (i + 1) (L ++ zs.take (ldN L m zs)) (S ++ zs) (k + (zs.length - ldN L m zs : Nat)) came (made + (zs.length : Int)) := by
  have hle : ldN L m zs ≤ zs.length := Nat.min_le_left _ _
  refine ⟨fun s hs => ?_, ?_, by have := h.k0; omega, h.c0, by have := h.big; omega, by have := h.few; rw [List.length_append]; omega⟩
  · rcases List.mem_append.1 hs with q | q
    · exact List.mem_append_left _ (h.mem s q)
    · exact List.mem_append_right _ (List.mem_of_mem_take q)
  · rw [List.length_append, List.length_take, h.sum]
    omega
theorem tkL_nil (i : Int) : tkL [] i = [] := rfl
theorem Nb.take {i : Nat} {L S : List Str} {k came made : Int} (h : Nb i L S k came made) (j : Int) (hL : L.isEmpty = false) : Nb (i + 1) (tkL L j) S k (came + 1) made := by
  have := len_tkL hL j
  exact ⟨fun s hs => h.mem s (mem_tkL hs), by rw [h.sum]; omega, h.k0, by have := h.c0; omega, by have := h.big; omega, by have := h.few; omega⟩
theorem Nb.none_ {i : Nat} {L S : List Str} {k came made : Int} (h : Nb i L S k came made) (j : Int) (hL : L.isEmpty = true) : Nb (i + 1) (tkL L j) S k came made := by
  cases L with
  | nil => exact h.idle
  | cons => cases hL
theorem Nb.drop {i : Nat} {L S : List Str} {k came made : Int} (h : Nb i L S k came made) (j : Int) : Nb (i + 1) (tkL L j) S (drK L k) came made := by
  cases hL : L.isEmpty with
  | true =>
    have := h.none_ j hL
    unfold drK
    rw [hL]
    exact this
  | false =>
    have := len_tkL hL j
    unfold drK
    rw [hL]
    exact ⟨fun s hs => h.mem s (mem_tkL hs), by rw [h.sum]; simp; omega, by have := h.k0; simp; omega, h.c0, by have := h.big; omega, by have := h.few; omega⟩
theorem Nb.twice {i : Nat} {L S : List Str} {k came made : Int} (h : Nb i L S k came made) (m j : Int) (hb : twB L m = true) : Nb (i + 1) (twL L m j) S k came (made + 1) := by
  have hL : L.isEmpty = false := by
    cases hL : L.isEmpty with
    | true => unfold twB at hb; rw [hL] at hb; cases hb
    | false => rfl
  unfold twL
  rw [if_pos hb]
  refine ⟨fun s hs => ?_, by rw [h.sum, List.length_append]; simp; omega, h.k0, h.c0, by have := h.big; omega, by have := h.few; omega⟩
  rcases List.mem_append.1 hs with q | q
  · exact h.mem s q
  · rw [List.mem_singleton.1 q]
    exact h.mem _ (mem_tkS hL j)
theorem Nb.twice_no {i : Nat} {L S : List Str} {k came made : Int} (h : Nb i L S k came made) (m j : Int) (hb : twB L m = false) : Nb (i + 1) (twL L m j) S k came made := by
  unfold twL
  rw [hb]
  exact h.idle
theorem wpL_app0 {ops : Array Oper} {rest : List Oper} {o : Oper} {a : Act} {w : World} {Q : Exit → Act → World → Prop} (hgd : o.guard = none) (s y : Operand)
    (ho : o.op = .call { callee := .builtin .append, args := #[s, y], argTypes := #[30, 30] }) (B n : Nat) (v : Value) (xs : List Value) (hs : a.eval s = v) (hown : w.ownsRow B 9 1 v n xs)
    (hx : a.eval y = .slice none 0 0) (h : wpList Try.prog ops Q rest (a.put o.dst v) w) : wpList Try.prog ops Q (o :: rest) a w := by
  refine wpList_plain hgd fun K hK => ?_
  obtain ⟨i, hi, hz0, hz1, hz2⟩ := info_parts info9
  have hr := run_append_owned_none (P := Try.prog) (w := w) B 30 o.type 9 i 1 Try.underlying30 hi v n xs hown
  unfold Oper.wp execOp
  simp only [ho, resolve, invoke, builtin, Sem.run_bind, Sem.run_pure, Result.andThen_ok, List.map_toArray, List.map_cons, List.map_nil, hs, hx, hr]
  exact hK _ _ h
set_option maxRecDepth 100000 in
set_option maxHeartbeats 8000000 in
theorem comes_law (HT : TwiceC) (m : Int) (A : Option Addr) (n cap : Nat) (os : List Oq) (w : World) (h : Sq w A n os) : Calls Try.prog 4 #[.int .i64 m, .slice A n cap] w fun e w' => e = .returned (.bool true) ∧ Below w.heap.size w w' := by
  obtain ⟨ti, hi0, hz0, hz1, hz2⟩ := info_parts info9
  have KL := Lib.hid (live_any HT)
  have KT : Hid TwiceC := HT
  have KS := Lib.hid (small_any A n cap os 40 w h)
  have H := Lib.hid h
  clear HT h
  go_enter Try.func4, Try.ntmps4
  go_wp2_with fail
  refine KS.out.mono ?_
  rintro _ w1 ⟨⟨b, rfl, hb⟩, rfl⟩
  cases b
  · clear KS
    go_wp2_with fail
    refine (KL.out _).mono ?_
    rintro _ w3 ⟨rfl, b3⟩
    go_wp2_with fail
    go_ret
    exact ⟨rfl, b3⟩
  obtain ⟨hn, ho⟩ := hb.out rfl
  have HO := Lib.hid ho
  clear hb ho KS
  by_cases hm : m < 1 ∨ 1000 < m
  · have HM := Lib.hid hm
    clear hm
    go_wp2_with fail
    refine (rnew_no m _ HM.out).mono ?_
    rintro _ w1 ⟨rfl, rfl⟩
    go_wp2_with fail
    refine (KL.out _).mono ?_
    rintro _ w3 ⟨rfl, b3⟩
    go_wp2_with fail
    go_ret
    exact ⟨rfl, b3⟩
  have m1 : 1 ≤ m := by omega
  have m2 : m ≤ 1000 := by omega
  clear hm
  go_wp2_with fail
  refine (rnew_ok m _ m1 m2).mono ?_
  rintro _ w1 ⟨rfl, _, b1⟩
  have B1 := Lib.hid b1
  clear b1
  go_wp2_with fail
  refine (new_ok m _ m1 m2).mono ?_
  rintro _ w2 ⟨rfl, n2, b2⟩
  obtain ⟨p, hp⟩ : ∃ p, p = w1.heap.size := ⟨_, rfl⟩
  rw [← hp] at n2
  rw [← hp]
  have C2 : Hid (Cq w w2 p m (.slice none 0 0) (.slice none 0 0) [] [] 0) := Lib.hid ⟨n2, ⟨rfl, .inl ⟨rfl, rfl⟩⟩, (fun g e => by cases e), bmore B1.out b2, by have := B1.out.size; omega⟩
  clear n2 b2 hp B1
  go_wp2_with fail
  go_loopg [6, 7, 8, 9] n (fun g s6 s7 s8 s9 wr => ∃ (i : Nat) (came made k : Int) (v vS : Value) (L S : List Str), i + g = n ∧ s9 = .int .i64 i ∧ s6 = vS ∧ s7 = .int .i64 came ∧ s8 = .int .i64 made ∧ Hid (Cq w wr p m v vS L S k) ∧ Hid (Nb i L S k came made))
  case atStart => exact ⟨0, 0, 0, 0, _, _, [], [], by omega, rfl, rfl, rfl, rfl, C2, Lib.hid Nb.start⟩
  case round =>
    clear C2
    obtain ⟨i, came, made, k, v, vS, L, S, hi, rfl, rfl, rfl, rfl, C, N⟩ := hrel
    cases gk with
    | zero =>
      obtain rfl : i = n := by omega
      have hlt : ¬ ((i : Int) < (i : Int)) := by omega
      go_wp2_with fail
      refine (KL.out _).mono ?_
      rintro _ w9 ⟨rfl, b9⟩
      go_wp2_with fail
      go_ret
      exact ⟨rfl, bmore C.out.low b9⟩
    | succ gn =>
      have i0 : (0 : Int) ≤ (i : Int) := by omega
      have i1 : (i : Int) < (n : Int) := by omega
      obtain ⟨o, ex⟩ : ∃ o, os[i]? = some o := ⟨_, List.getElem?_eq_getElem (by have := H.out.len; omega)⟩
      have ho50 := HO.out o (List.mem_of_getElem? ex)
      obtain ⟨ad, rfl, hadl, ⟨hT, hwf⟩, hat⟩ := H.out.still ex
      have AT := Lib.hid hat
      have TL := Lib.hid (hT.next C.out.low)
      have T0 := Lib.hid hT
      obtain ⟨c0, c1, c2⟩ := hat wr C.out.low
      clear hat hT hwf hadl ex
      obtain ⟨od, oA, ocap, ozs, oi⟩ := o
      dsimp only at c0 c1 c2 ho50
      have hma := N.out.big
      have hk0 := N.out.k0
      have hc0 := N.out.c0
      have hma0 : 0 ≤ made := by have := N.out.sum; omega
      have hkm : k ≤ made := by have := N.out.sum; omega
      have hcm : came ≤ made := by have := N.out.sum; omega
      have hcap := TL.out.le
      have hfew := N.out.few
      have hL1 := C.out.net.len
      have hiz : i ≤ 40 := by omega
      obtain ⟨AS, cS, rfl⟩ := own_form C.out.row
      go_upto_region 12 with fail
      go_cut [35] (fun s35 wx => s35 = .int .i64 od ∧ wx = wr)
      case first =>
        go_wp2_with fail
        go_meet
        exact ⟨rfl, rfl⟩
      case rest =>
      obtain ⟨rfl, rfl⟩ := hcut
      rename_i kk ak
      refine ak _ _ ?_
      clear ak
      go_cut [6, 7, 8] (fun s6 s7 s8 wx => ∃ (came' made' k' : Int) (v' vS' : Value) (L' S' : List Str), s6 = vS' ∧ s7 = .int .i64 came' ∧ s8 = .int .i64 made' ∧ Hid (Cq w wx p m v' vS' L' S' k') ∧ Hid (Nb (i + 1) L' S' k' came' made'))
      case first =>
        by_cases d0 : od = 0
        · have t0 : (od == 0) = true := by simpa using d0
          clear d0
          go_wp2_with fail
          refine (send_any C.out.net oA ozs.length ocap ozs TL.out.at_ rfl (by omega) TL.out.le TL.out.no (by omega) (by omega)).mono ?_
          rintro _ w3 ⟨rfl, v3, n3, t3⟩
          have C3 := Lib.hid (C.out.turn n3 t3)
          have N3 := Lib.hid (N.out.send ho50 m)
          obtain ⟨e0, e1, e2⟩ := AT.out w3 C3.out.low
          have TL3 := Lib.hid (T0.out.next C3.out.low)
          clear n3 t3 c0 c1 c2
          rcases oA with _ | oa
          · have hc0' := TL3.out.no rfl
            have hz0' := TL3.out.at_.none_
            subst hz0'
            obtain rfl : ocap = 0 := hc0'
            go_wp2_with (at_builtin; refine wpL_app0 rfl _ _ rfl p _ _ _ rfl C3.out.row rfl ?_)
            have N4 := N3.out
            rw [List.append_nil S] at N4
            go_meet
            exact ⟨_, _, _, _, _, _, S, rfl, rfl, by go_num, C3, Lib.hid N4⟩
          · have hlen3 := hfew
            go_wp2_with (at_builtin; refine wpList_append_own_at _ rfl _ _ 30 rfl p 9 ti (.string ⟨#[]⟩) 1 16 Try.underlying30 hi0 hz0 hz1 hz2 rfl (by decide) _ _ _ rfl C3.out.row oa ozs.length ocap (sv ozs) rfl ?q1 ?q2 ?q3 ?q4 ?q5 ?q6 ?_)
            case q1 => rw [sv_len, Nat.mul_one]
            case q2 => exact TL3.out.at_.cells
            case q3 => exact sv_ones _
            case q4 => unfold maxLen; omega
            case q5 => omega
            case q6 => have := C3.out.net.blk.lt; omega
            intro v4 w4 r4 g4 _ a4
            have C4 := Lib.hid (C3.out.sent r4 rfl g4 a4)
            obtain ⟨A4, c4, rfl⟩ := own_form r4
            obtain ⟨e0, e1, e2⟩ := AT.out w4 C4.out.low
            clear r4 g4 a4
            go_wp2_with fail
            go_meet
            exact ⟨_, _, _, _, _, _, _, rfl, rfl, by go_num, C4, N3⟩
        have t0 : (od == 0) = false := by simpa using d0
        by_cases d1 : od = 1
        · have t1 : (od == 1) = true := by simpa using d1
          clear d0 d1
          have hmem := Lib.hid (fun q : L.isEmpty = false => N.out.mem _ (mem_tkS q oi))
          have KTk := Lib.hid (take_any C.out.net oi)
          have NA := Lib.hid (fun q : L.isEmpty = false => N.out.take oi q)
          have NB := Lib.hid (fun q : L.isEmpty = true => N.out.none_ oi q)
          have KC := Lib.hid (fun w3 (c3 : StrsAt w3 AS S) => count_any AS S.length cS S (tkS L oi) w3 c3 rfl (by omega))
          cases hL : L.isEmpty
          · have HM := Lib.hid (hmem.out hL)
            have N5 := Lib.hid (NA.out hL)
            rw [hL] at KTk
            clear hmem NA NB
            go_wp2_with fail
            refine KTk.out.mono ?_
            rintro _ w3 ⟨rfl, v3, n3, t3⟩
            have C3 := Lib.hid (C.out.turn n3 t3)
            clear n3 t3 c0 c1 c2 KTk hL
            go_wp2_with fail
            refine (KC.out _ (strs_row rfl C3.out.row)).mono ?_
            rintro _ w4 ⟨c, rfl, rfl, hc⟩
            have hc1 := hc.out HM.out
            have t9 : ((c : Int) == 0) = false := by
              have : ¬ ((c : Int) = 0) := by omega
              simpa using this
            clear hc
            go_wp2_with fail
            go_meet
            exact ⟨_, _, _, _, _, _, _, rfl, by go_num, rfl, C3, N5⟩
          · have N5 := Lib.hid (NB.out hL)
            rw [hL] at KTk
            clear hmem NA NB
            go_wp2_with fail
            refine KTk.out.mono ?_
            rintro _ w3 ⟨rfl, v3, n3, t3⟩
            have C3 := Lib.hid (C.out.turn n3 t3)
            clear n3 t3 c0 c1 c2 KTk hL
            go_wp2_with fail
            go_meet
            exact ⟨_, _, _, _, _, _, _, rfl, rfl, rfl, C3, N5⟩
        have t1 : (od == 1) = false := by simpa using d1
        by_cases d2 : od = 2
        · have t2 : (od == 2) = true := by simpa using d2
          clear d0 d1 d2
          have N5 := Lib.hid (N.out.drop oi)
          have KD := Lib.hid (drop_any C.out.net oi hk0 (by omega))
          go_wp2_with fail
          refine KD.out.mono ?_
          rintro _ w3 ⟨rfl, v3, n3, t3⟩
          have C3 := Lib.hid (C.out.turn n3 t3)
          clear n3 t3 c0 c1 c2 KD
          go_wp2_with fail
          go_meet
          exact ⟨_, _, _, _, _, _, _, rfl, rfl, rfl, C3, N5⟩
        have t2 : (od == 2) = false := by simpa using d2
        by_cases d3 : od = 3
        · have t3 : (od == 3) = true := by simpa using d3
          clear d0 d1 d2 d3
          have KW := Lib.hid (KT.out C.out.net oi)
          cases hb : twB L m
          · have N5 := Lib.hid (N.out.twice_no m oi hb)
            rw [hb] at KW
            go_wp2_with fail
            refine KW.out.mono ?_
            rintro _ w3 ⟨rfl, v3, n3, t3⟩
            have C3 := Lib.hid (C.out.turn n3 t3)
            clear n3 t3 c0 c1 c2 KW hb
            go_wp2_with fail
            go_meet
            exact ⟨_, _, _, _, _, _, _, rfl, rfl, rfl, C3, N5⟩
          · have N5 := Lib.hid (N.out.twice m oi hb)
            rw [hb] at KW
            go_wp2_with fail
            refine KW.out.mono ?_
            rintro _ w3 ⟨rfl, v3, n3, t3⟩
            have C3 := Lib.hid (C.out.turn n3 t3)
            clear n3 t3 c0 c1 c2 KW hb
            go_wp2_with fail
            go_meet
            exact ⟨_, _, _, _, _, _, _, rfl, rfl, by go_num, C3, N5⟩
        · have t3 : (od == 3) = false := by simpa using d3
          have N5 := Lib.hid N.out.idle
          clear d0 d1 d2 d3
          go_wp2_with fail
          go_meet
          exact ⟨_, _, _, _, _, _, _, rfl, rfl, rfl, C, N5⟩
      case rest =>
        obtain ⟨came', made', k', v', vS', L', S', rfl, rfl, rfl, C', N'⟩ := hcut
        clear C N c0 c1 c2 AT TL T0 hma hk0 hc0 hma0 hkm hcm hcap hfew hL1 ho50
        have hma := N'.out.big
        have hk0 := N'.out.k0
        have hc0 := N'.out.c0
        have hsum := Lib.hid N'.out.sum
        have hL1 := C'.out.net.len
        have hfit := C'.out.net.fit
        have hs1 := N'.out.sum
        go_wp2_with fail
        refine (lost_any C'.out.net).mono ?_
        rintro _ w3 ⟨rfl, rfl⟩
        go_wp2_with fail
        refine (list_any C'.out.net).mono ?_
        rintro _ w4 ⟨A4, c4, rfl, _, _, b4⟩
        have C4 := Lib.hid (C'.out.next b4)
        have t7 : decide (m < (L'.length : Int)) = false := decide_eq_false (by omega)
        clear b4
        go_wp2_with fail
        refine (list_any C4.out.net).mono ?_
        rintro _ w5 ⟨A5, c5, rfl, _, _, b5⟩
        have C5 := Lib.hid (C4.out.next b5)
        clear b5
        go_wp2_with fail
        go_roundg gn
        case measure => omega
        case rel => exact ⟨i + 1, came', _, k', v', _, L', S', by omega, by go_num, rfl, rfl, rfl, C5, by rw [← hsum.out]; exact N'⟩
end Go.Proofs.Ytlhfijjjfolldaa
