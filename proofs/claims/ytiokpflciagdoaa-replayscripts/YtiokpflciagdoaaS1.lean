/- The law's small; the document's number, Check, New. -/
import Derived.Test.YtiokpflciagdoaaP0
import Derived.Test.YtiokpflciagdoaaA9
namespace Go.Proofs.Ytiokpflciagdoaa
open Go.RowKit

/-- Are there few calls, of little? -/
def smallB (os : List OpR) (most : Int) : Bool := os.all (fun o => decide (o.c.n ≤ 20)) && decide ((os.length : Int) ≤ most)
/-- A call of a script, at an address. -/
structure OpCells (w : World) (E : Addr) (o : OpR) : Prop where
  e0 : w.cell? E = some (.int .i64 o.d)
  e1 : w.cell? ⟨E.block, E.off + 1, none⟩ = some (.int .i64 o.c.j)
  e2 : w.cell? ⟨E.block, E.off + 1 + 1, none⟩ = some (.int .i64 o.c.e)
  e3 : w.cell? ⟨E.block, E.off + 1 + 2, none⟩ = some (.int .i64 o.c.s)
  e4 : w.cell? ⟨E.block, E.off + 1 + 3, none⟩ = some (.int .i64 o.c.f)
  e5 : w.cell? ⟨E.block, E.off + 1 + 4, none⟩ = some (.int .i64 o.c.u)
  e6 : w.cell? ⟨E.block, E.off + 1 + 5, none⟩ = some (.slice o.c.A o.c.n o.c.cap)
  e7 : w.cell? ⟨E.block, E.off + 1 + 6, none⟩ = some (.int .i64 o.c.c)
  e8 : w.cell? ⟨E.block, E.off + 8, none⟩ = some (.int .i64 o.now)
  e9 : w.cell? ⟨E.block, E.off + 9, none⟩ = some (.int .i64 o.job)
  e10 : w.cell? ⟨E.block, E.off + 10, none⟩ = some (.int .i64 o.ep)
theorem add_pos (a : Addr) {n : Nat} (h : n ≠ 0) : a.add n = ⟨a.block, a.off + n, none⟩ := by unfold Addr.add; rw [if_neg h]
theorem ScriptAt.at_ {w : World} {A : Option Addr} {os : List OpR} (h : ScriptAt w A os) {k : Nat} (hk : k < os.length) : ∃ ad o, A = some ad ∧ ad.block < w.heap.size ∧ os[k]? = some o ∧ OpAt w o ∧ OpCells w (ad.add (k * 11)) o := by
  obtain ⟨h1, h2⟩ := h
  rcases h2 with rfl | ⟨ad, rfl, h3, h4⟩
  · cases hk
  · have hc := h4 k _ (List.getElem?_eq_getElem hk)
    have hc' : ∀ i, i < 11 → i ≠ 0 → w.cell? ⟨(ad.add (k * 11)).block, (ad.add (k * 11)).off + i, none⟩ = os[k].cs[i]? := by
      intro i hi hi0
      rw [← add_pos _ hi0, add_add]
      exact hc i hi
    have h0 := hc 0 (by omega)
    exact ⟨ad, os[k], rfl, h3, List.getElem?_eq_getElem hk, h1 _ (List.getElem_mem hk), ⟨h0, hc' 1 (by omega) (by omega), hc' 2 (by omega) (by omega), hc' 3 (by omega) (by omega), hc' 4 (by omega) (by omega), hc' 5 (by omega) (by omega), hc' 6 (by omega) (by omega), hc' 7 (by omega) (by omega), hc' 8 (by omega) (by omega), hc' 9 (by omega) (by omega), hc' 10 (by omega) (by omega)⟩⟩
theorem CrAt.below {w w' : World} {x : Cr} (h : CrAt w x) (hb : Below w.heap.size w w') : CrAt w' x := ⟨h.wj, h.we, h.ws, h.wf_, h.wu, h.wc, h.len, h.max, h.cap, h.ints.next hb⟩
theorem ScriptAt.below {w w' : World} {A : Option Addr} {os : List OpR} (h : ScriptAt w A os) (hb : Below w.heap.size w w') : ScriptAt w' A os := by
  obtain ⟨h1, h2⟩ := h
  refine ⟨fun o ho => ⟨(h1 o ho).cr.below hb, (h1 o ho).wn, (h1 o ho).wj, (h1 o ho).we⟩, ?_⟩
  rcases h2 with rfl | ⟨ad, rfl, h3, h4⟩
  · exact .inl rfl
  · exact .inr ⟨ad, rfl, Nat.lt_of_lt_of_le h3 hb.size, fun i o hi k hk => (hb.cell (p := ad.add (i * 11 + k)) (by rw [block_add]; exact h3)).trans (h4 i o hi k hk)⟩
theorem take_at {α : Type} {l : List α} {k : Nat} {x : α} (h : l[k]? = some x) : l.take (k + 1) = l.take k ++ [x] := by
  rw [List.take_add_one, h]; rfl
set_option maxRecDepth 100000 in
set_option maxHeartbeats 1000000 in
theorem small_any (A : Option Addr) (n cap : Nat) (os : List OpR) (most : Int) (w : World) (hs : ScriptAt w A os) (hn : os.length = n) (hm : n ≤ maxLen) :
    Calls Try.prog 8 #[.slice A n cap, .int .i64 most] w fun x w' => x = .returned (.bool (smallB os most)) ∧ w = w' := by
  unfold maxLen at hm
  have HN := Lib.hid hn
  clear hn
  go_enter Try.func8, Try.ntmps8
  go_wp2_with fail
  go_loop [5] (fun i => ∃ k : Nat, k ≤ n ∧ i = .int .i64 k ∧ Hid ((os.take k).all (fun o => decide (o.c.n ≤ 20)) = true)) (fun i => n - (intOf i).toNat)
  case atStart => exact ⟨0, Nat.zero_le _, rfl, Lib.hid (by simp)⟩
  case round =>
    obtain ⟨k, hk, rfl, HR⟩ := hrel
    by_cases hlt : k < n
    · obtain ⟨ad, o, rfl, hbl, hok, hoat, hc⟩ := hs.at_ (k := k) (by rw [HN.out]; exact hlt)
      have c6 := hc.e6
      have HO := Lib.hid hok
      clear hok hc
      by_cases h20 : o.c.n ≤ 20
      · have t1 : decide ((20 : Int) < (o.c.n : Int)) = false := by simp; omega
        go_wp2_with fail
        go_round
        case rel => exact ⟨k + 1, by omega, by go_num, Lib.hid (by rw [take_at HO.out, List.all_append, HR.out]; simp [h20])⟩
        case measure => simp [intOf]; omega
      · have t1 : decide ((20 : Int) < (o.c.n : Int)) = true := by simp; omega
        go_wp2_with fail
        go_ret
        have hf : smallB os most = false := by
          unfold smallB
          rw [Bool.and_eq_false_iff]
          left
          rw [List.all_eq_false]
          exact ⟨o, List.mem_of_getElem? HO.out, by simp; omega⟩
        exact ⟨by rw [hf]; rfl, rfl⟩
    · have hall : os.all (fun o => decide (o.c.n ≤ 20)) = true := by
        have := HR.out
        rw [List.take_of_length_le (by rw [HN.out]; omega)] at this
        exact this
      have hf : smallB os most = decide ((n : Int) ≤ most) := by
        unfold smallB
        rw [hall, HN.out]
        rfl
      have HF := Lib.hid hf
      clear hall hf
      go_wp2_with fail
      go_ret
      exact ⟨by rw [HF.out]; rfl, rfl⟩
/-- May a number be written? -/
def numB (n : Int) : Bool := decide (0 ≤ n) && decide (n ≤ 1099511627776)
set_option maxRecDepth 100000 in
set_option maxHeartbeats 400000 in
theorem number_any (n : Int) (w : World) : Calls Try.prog 28 #[.int .i64 n] w fun e w' => e = .returned (.bool (numB n)) ∧ w = w' := by
  unfold numB
  by_cases h : 0 ≤ n
  · have t0 : decide (0 ≤ n) = true := by simpa using h
    go_enter Try.func28, Try.ntmps28
    go_wp2_with fail
    go_ret
    exact ⟨by rw [t0]; rfl, rfl⟩
  · have t0 : decide (0 ≤ n) = false := by simpa using h
    go_enter Try.func28, Try.ntmps28
    go_wp2_with fail
    go_ret
    exact ⟨by first | rfl | (rw [t0]; rfl), rfl⟩
set_option maxRecDepth 100000 in
set_option maxHeartbeats 400000 in
theorem rnew_ok (m : Int) (w : World) (h1 : 1 ≤ m) (h2 : m ≤ 64) :
    Calls Try.prog 11 #[.int .i64 m] w fun e w' => e = .returned (.pointer (some ⟨w.heap.size, 0, none⟩)) ∧ Bk w' w.heap.size 39 #[.int .i64 m, .slice none 0 0, .slice none 0 0] ∧ Below w.heap.size w w' := by
  go_enter Try.func11, Try.ntmps11
  go_wp2_with fail
  go_ret
  exact ⟨rfl, Bk.new _ _ _, below_alloc _ _⟩
set_option maxRecDepth 100000 in
set_option maxHeartbeats 400000 in
theorem rnew_bad (m : Int) (w : World) (h : m < 1 ∨ 64 < m) : Calls Try.prog 11 #[.int .i64 m] w fun e w' => e = .returned (.pointer none) ∧ w = w' := by
  rcases h with h | h
  · go_enter Try.func11, Try.ntmps11
    go_wp2_with fail
    go_ret
    exact ⟨rfl, rfl⟩
  · have h' : ¬ m < 1 := by omega
    go_enter Try.func11, Try.ntmps11
    go_wp2_with fail
    go_ret
    exact ⟨rfl, rfl⟩
end Go.Proofs.Ytiokpflciagdoaa
