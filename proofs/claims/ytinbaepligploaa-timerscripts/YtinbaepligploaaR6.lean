/- TimerScripts, walked. -/
import Derived.Test.YtinbaepligploaaR5
import Derived.Deep.RegionHeld3
namespace Go.Proofs.Ytinbaepligploaa
open Go.RowKit Go.Shelf

/-- A call of a script. -/
abbrev Op3 := Int × Int × Int
abbrev opC (o : Op3) : List Value := [.int .i64 o.1, .int .i64 o.2.1, .int .i64 o.2.2]
/-- A script, as its calls. -/
def Scr (w : World) (A : Option Addr) (os : List Op3) : Prop := os = [] ∨ ∃ ad, A = some ad ∧ ad.block < w.heap.size ∧ ∀ i o, os[i]? = some o → ∀ k, k < 3 → w.cell? (ad.add (i * 3 + k)) = (opC o)[k]?
theorem Scr.next {w w' : World} {A : Option Addr} {os : List Op3} (h : Scr w A os) (hb : Below w.heap.size w w') : Scr w' A os := by
  rcases h with rfl | ⟨ad, rfl, h1, h2⟩
  · exact .inl rfl
  · exact .inr ⟨ad, rfl, Nat.lt_of_lt_of_le h1 hb.size, fun i o hi k hk => (hb.cell (p := ad.add (i * 3 + k)) (by rw [block_add]; exact h1)).trans (h2 i o hi k hk)⟩
theorem add_add (a : Addr) (m n : Nat) : (a.add m).add n = a.add (m + n) := by
  unfold Addr.add
  by_cases hm : m = 0
  · subst hm; simp
  · by_cases hn : n = 0
    · subst hn; simp [hm]
    · simp [hm, hn, Nat.add_assoc]
theorem add_pos (a : Addr) {n : Nat} (h : n ≠ 0) : a.add n = ⟨a.block, a.off + n, none⟩ := by unfold Addr.add; simp [h]
theorem Scr.at_ {w : World} {A : Option Addr} {os : List Op3} (h : Scr w A os) {k : Nat} (hk : k < os.length) : ∃ ad o, A = some ad ∧ os[k]? = some o ∧ w.cell? (ad.add (k * 3)) = some (.int .i64 o.1) ∧ w.cell? ⟨(ad.add (k * 3)).block, (ad.add (k * 3)).off + 1, none⟩ = some (.int .i64 o.2.1) ∧ w.cell? ⟨(ad.add (k * 3)).block, (ad.add (k * 3)).off + 2, none⟩ = some (.int .i64 o.2.2) := by
  rcases h with rfl | ⟨ad, rfl, h3, h4⟩
  · cases hk
  · have hc := h4 k _ (List.getElem?_eq_getElem hk)
    have h0 := hc 0 (by omega)
    have h1 := hc 1 (by omega)
    have h2 := hc 2 (by omega)
    rw [← add_add, add_pos _ (by omega)] at h1 h2
    exact ⟨ad, os[k], rfl, List.getElem?_eq_getElem hk, h0, h1, h2⟩
/-- Both queues have the same. -/
structure Bt (w V : World) (p q : Nat) (S : List Dl) : Prop where
  tq : TQ V p S
  rq : ∃ sl, RQ V q sl S
  ok : Ok S
  low : Below p w V
theorem Bt.next {w V V' : World} {p q : Nat} {S : List Dl} (h : Bt w V p q S) (hb : Below V.heap.size V V') : Bt w V' p q S := by
  obtain ⟨sl, hr⟩ := h.rq
  exact ⟨h.tq.next hb, ⟨sl, hr.next hb⟩, h.ok, h.low.trans (hb.mono (Nat.le_of_lt h.tq.lt))⟩
theorem Bt.drew {w V : World} {p q : Nat} {S : List Dl} (h : Bt w V p q S) : Bt w V.drew p q S := h.next (Below.refl _ _).drew
theorem Bt.cell {w V : World} {p q : Nat} {S : List Dl} (h : Bt w V p q S) : ∃ A ca, V.cell? ⟨q, 0, none⟩ = some (.slice A S.length ca) := by
  obtain ⟨sl, hr⟩ := h.rq
  obtain ⟨A, ca, rfl⟩ := own_form hr.row
  exact ⟨A, ca, hr.blk.cell 0 _ rfl⟩
set_option maxRecDepth 100000 in
set_option maxHeartbeats 8000000 in
theorem timerScripts_any (A : Option Addr) (n cap : Nat) (os : List Op3) (w : World) (hs : Scr w A os) (hn : os.length = n) (hm : n ≤ maxLen) :
    Calls Try.prog 3 #[.slice A n cap] w fun e w' => e = .returned (.bool true) ∧ Below w.heap.size w w' := by
  unfold maxLen at hm
  have HN := Lib.hid hn
  clear hn
  by_cases h400 : 400 < n
  · go_enter Try.func3, Try.ntmps3
    go_wp2_with fail
    refine (tlive_any _).mono ?_
    rintro x w1 ⟨rfl, hb⟩
    go_wp2_with fail
    go_ret
    exact ⟨rfl, hb⟩
  go_enter Try.func3, Try.ntmps3
  go_wp2_with fail
  refine (Lq.new w).mono ?_
  rintro x V ⟨rfl, lq⟩
  generalize hp : w.heap.size = p at *
  replace hp := Lib.hid hp
  have hb0 := below_alloc V (.cells #[.slice none 0 0] 29)
  have st : Bt w (V.alloc (.cells #[.slice none 0 0] 29)) p V.heap.size [] := ⟨(lq.next hb0).tq, ⟨_, Bk.new V 29 #[.slice none 0 0], World.ownsRow_nil _ _ _ _⟩, ok_nil, (lq.next hb0).low⟩
  have hpq := lq.tq.lt
  replace hs := Lib.hid hs
  clear lq hb0
  go_wp2_with fail
  generalize V.alloc (.cells #[.slice none 0 0] 29) = W at *
  generalize V.heap.size = q at *
  go_loopw [5] (fun iv wr => ∃ (k : Nat) (S : List Dl), k ≤ n ∧ iv = .int .i64 (k : Int) ∧ Bt w wr p q S) (fun iv _ => n - (intOf iv).toNat)
  case atStart => exact ⟨0, [], Nat.zero_le _, rfl, st⟩
  case round =>
    clear st
    obtain ⟨k, S, hk, rfl, st⟩ := hrel
    by_cases hlt : k < n
    · have HSC := Lib.hid (fun (V' : World) (h : Below p w V') => hs.out.next (w' := V') (by rw [hp.out]; exact h))
      obtain ⟨ad, o, rfl, ho, c0, c1, c2⟩ := (HSC.out _ st.low).at_ (k := k) (by rw [HN.out]; exact hlt)
      have HC1 : Hid (∀ V', Below p w V' → V'.cell? ⟨(ad.add (k * 3)).block, (ad.add (k * 3)).off + 1, none⟩ = some (.int .i64 o.2.1)) := Lib.hid (fun V' h => by
        obtain ⟨ad', o', e1, e2, _, e3, _⟩ := (HSC.out V' h).at_ (k := k) (by rw [HN.out]; exact hlt)
        injection e1 with e1
        subst e1
        rw [ho] at e2
        injection e2 with e2
        subst e2
        exact e3)
      obtain ⟨o0, o1, o2⟩ := o
      have KD := Lib.hid (show Calls Try.prog 15 #[.pointer (some ⟨p, 0, none⟩), .pointer (some ⟨q, 0, none⟩), .agg #[.int .i64 o0, .int .i64 o1, .int .i64 o2]] wr fun x V' => x = .returned (.bool true) ∧ Bt w V' p q (After S o0 o1 o2) from by
        obtain ⟨sl, hr⟩ := st.rq
        exact (does_any o0 o1 o2 st.tq hr st.low hpq st.ok).mono fun _ _ ⟨h1, h2, h3, h4⟩ => ⟨h1, h2, h3, after_ok st.ok o0 o1 o2, h4⟩)
      generalize After S o0 o1 o2 = S' at *
      clear ho HSC st
      have i2 : (0 : Int) ≤ (k : Int) := by omega
      have i3 : (k : Int) < (n : Int) := by omega
      go_wp2_with fail
      refine KD.out.mono ?_
      rintro x w2 ⟨rfl, st⟩
      clear KD c0 c1 c2
      have c1 := HC1.out _ st.low
      have K1 := Lib.hid (show ∀ V, Bt w V p q S' → Calls Try.prog 16 #[.pointer (some ⟨p, 0, none⟩), .int .i64 o1] V fun x V' => x = .returned (atV S' o1) ∧ Bt w V' p q S' from fun V h => (at_any h.tq h.ok o1).mono fun _ _ ⟨h1, h2⟩ => ⟨h1, h.next h2⟩)
      have K2 := Lib.hid (show ∀ V, Bt w V p q S' → Calls Try.prog 17 #[.pointer (some ⟨q, 0, none⟩), .int .i64 o1] V fun x V' => x = .returned (atV S' o1) ∧ Bt w V' p q S' from fun V h => by
        obtain ⟨sl, hr⟩ := h.rq
        exact (rat_any hr h.ok o1).mono fun _ _ ⟨h1, h2⟩ => ⟨h1, h2 ▸ h⟩)
      have K3 := Lib.hid (show ∀ V, Bt w V p q S' → Calls Try.prog 18 #[.pointer (some ⟨p, 0, none⟩)] V fun x V' => x = .returned (nextV S') ∧ Bt w V' p q S' from fun V h => (next_any h.tq h.ok).mono fun _ _ ⟨h1, h2⟩ => ⟨h1, h.next h2⟩)
      have K4 := Lib.hid (show ∀ V, Bt w V p q S' → Calls Try.prog 19 #[.pointer (some ⟨q, 0, none⟩)] V fun x V' => x = .returned (nextV S') ∧ Bt w V' p q S' from fun V h => by
        obtain ⟨sl, hr⟩ := h.rq
        exact (rnext_any hr).mono fun _ _ ⟨h1, h2⟩ => ⟨h1, h.next h2⟩)
      have K5 := Lib.hid (show ∀ V, Bt w V p q S' → Calls Try.prog 20 #[.pointer (some ⟨p, 0, none⟩)] V fun x V' => x = .returned (.int .i64 (S'.length : Int)) ∧ V = V' from fun V h => tlen_any h.tq)
      unfold atV at K1 K2
      unfold nextV at K3 K4
      generalize (atE S' o1).1 = z1 at *
      generalize (atE S' o1).2 = b1 at *
      generalize (nextE S').1 = z2 at *
      generalize (nextE S').2.1 = z3 at *
      generalize (nextE S').2.2 = b2 at *
      go_wp2_with fail
      refine (K1.out _ st).mono ?_
      clear st c1
      rintro x w3 ⟨rfl, st⟩
      have c1 := HC1.out _ st.low
      go_wp2_with fail
      refine (K2.out _ st).mono ?_
      clear st c1
      rintro x w4 ⟨rfl, st⟩
      go_wp2_with fail
      refine (K3.out _ st).mono ?_
      clear st
      rintro x w5 ⟨rfl, st⟩
      go_wp2_with fail
      refine (K4.out _ st).mono ?_
      clear st
      rintro x w6 ⟨rfl, st⟩
      obtain ⟨Aq, caq, cq⟩ := st.cell
      have h256 := st.ok.len
      generalize S'.length = sn at *
      have n1 : (z1 != z1) = false := by simp
      have n2 : (z2 != z2) = false := by simp
      have n3 : (z3 != z3) = false := by simp
      have n4 : (b1 != b1) = false := by simp
      have n5 : (b2 != b2) = false := by simp
      go_wp2_with fail
      go_region_held3 (fun W => W.cell? ⟨q, 0, none⟩ = some (.slice Aq sn caq))
        (first | exact cq)
        (first | (go_at_call 20; refine (K5.out _ (by first | exact st | exact st.drew)).mono ?_; rintro y wn ⟨rfl, rfl⟩))
      all_goals
        go_wp2_with fail
        go_roundw
        case rel => exact ⟨k + 1, S', by omega, by go_num, by first | exact st | exact st.drew⟩
        case measure => simp [intOf]; omega
    · obtain rfl : k = n := by omega
      go_wp2_with fail
      refine (tlive_any _).mono ?_
      rintro x w9 ⟨rfl, hb⟩
      go_wp2_with fail
      go_ret
      exact ⟨rfl, by rw [hp.out]; exact (st.next hb).low⟩
end Go.Proofs.Ytinbaepligploaa
