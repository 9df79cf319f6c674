/- The document's queue: in memory; may, less, At, Next, Cancel. -/
import Derived.Test.YtinbaepligploaaQ11
namespace Go.Proofs.Ytinbaepligploaa
open Go.RowKit Go.Shelf

/-- Pairs of a deadline and an id, one behind the other. -/
def rRow (S : List Dl) : List Value := S.flatMap fun d => [.int .i64 d.2, .int .i64 d.1]
theorem rRow_len (L : List Dl) : (rRow L).length = L.length * 2 := flat_len _ 2 (fun _ => rfl) L
theorem rRow_at {L : List Dl} {k : Nat} (hk : k < L.length) : (rRow L)[k * 2]? = some (.int .i64 (nt L k).2) ∧ (rRow L)[k * 2 + 1]? = some (.int .i64 (nt L k).1) :=
  ⟨flat_at _ 2 (fun _ => rfl) L k (nt L k) 0 (nt_get hk) (by omega), flat_at _ 2 (fun _ => rfl) L k (nt L k) 1 (nt_get hk) (by omega)⟩
theorem rRow_snoc (L : List Dl) (d : Dl) : rRow (L ++ [d]) = rRow L ++ [.int .i64 d.2, .int .i64 d.1] := by simp [rRow]
abbrev RRow (V : World) (B : Nat) (v : Value) (L : List Dl) : Prop := V.ownsRow B 52 2 v L.length (rRow L)
/-- The document's queue. -/
structure RQ (V : World) (q : Nat) (sl : Value) (S : List Dl) : Prop where
  blk : Bk V q 29 #[sl]
  row : RRow V (q + 1) sl S
section
variable {V V' : World} {q B : Nat} {sl : Value} {S : List Dl}
theorem RQ.next (h : RQ V q sl S) (hb : Below V.heap.size V V') : RQ V' q sl S := ⟨h.blk.next hb, own_next h.row hb⟩
theorem rrow_at (h : RRow V B sl S) {k : Nat} (hk : k < S.length) : ∃ g cap, sl = .slice (some ⟨g, 0, none⟩) S.length cap ∧ V.cell? ⟨g, k * 2, none⟩ = some (.int .i64 (nt S k).2) ∧ V.cell? ⟨g, k * 2 + 1, none⟩ = some (.int .i64 (nt S k).1) := by
  rcases h.2 with ⟨_, h0⟩ | ⟨g, cap, cur, rfl, hb, hg, hc, hm, hs, ht⟩
  · omega
  · have hcell : ∀ j u, j < S.length * 2 → (rRow S)[j]? = some u → V.cell? ⟨g, j, none⟩ = some u := by
      intro j u hj hu
      rw [cell_of_row V g j cur 52 (0, 0) hg]
      rw [← ht, List.getElem?_take, if_pos hj] at hu
      simpa using hu
    obtain ⟨h1, h2⟩ := rRow_at hk
    exact ⟨g, cap, rfl, hcell _ _ (by omega) h1, hcell _ _ (by omega) h2⟩
end
theorem info52 : (Try.prog.info? 52).map (fun i => (i.zero, i.size, i.bytes)) = some (some (.agg #[.int .i64 0, .int .i64 0]), 2, 16) := by kernel_rfl
theorem cells2_new (w : World) (a b : Value) (t : TypeId) : ∀ j u, [a, b][j]? = some u → (w.alloc (.cells #[a, b] t)).cell? ((⟨w.heap.size, 0, none⟩ : Addr).add j) = some u := by
  intro j u h
  have hadd : (⟨w.heap.size, 0, none⟩ : Addr).add j = ⟨w.heap.size, j, none⟩ := by unfold Addr.add; split <;> simp_all
  rw [hadd]
  exact (Bk.new w t #[a, b]).cell j u (by simpa using h)
set_option maxRecDepth 100000 in
set_option maxHeartbeats 400000 in
theorem rmayN_any (n : Int) (w : World) : Calls Try.prog 50 #[.int .i64 n] w fun x w' => x = .returned (.bool (okN n)) ∧ w = w' := by
  by_cases h : 0 ≤ n
  · have e := Lib.hid (show okN n = decide (n ≤ 1099511627776) from by simp [okN, h])
    go_enter Try.func50, Try.ntmps50
    go_wp2_with fail
    go_ret
    exact ⟨by rw [e.out]; rfl, rfl⟩
  · have e := Lib.hid (show okN n = false from by simp [okN, h])
    go_enter Try.func50, Try.ntmps50
    go_wp2_with fail
    go_ret
    exact ⟨by rw [e.out]; rfl, rfl⟩
set_option maxRecDepth 100000 in
set_option maxHeartbeats 1000000 in
theorem rless_any (a b : Dl) (w : World) : Calls Try.prog 51 #[.agg #[.int .i64 a.2, .int .i64 a.1], .agg #[.int .i64 b.2, .int .i64 b.1]] w fun x w' => x = .returned (.bool (decide (lt a b))) ∧ Below w.heap.size w w' := by
  have low := (below_alloc w (.cells #[.int .i64 a.2, .int .i64 a.1] 52)).alloc (by simp) (.cells #[.int .i64 b.2, .int .i64 b.1] 52)
  by_cases h1 : a.2 < b.2
  · have e := Lib.hid (decide_eq_true (show lt a b from .inl h1))
    go_enter Try.func51, Try.ntmps51
    go_wp2_with fail
    go_ret
    exact ⟨by rw [e.out]; rfl, low⟩
  · by_cases h2 : a.2 = b.2
    · have t2 : (a.2 == b.2) = true := by simpa using h2
      have e := Lib.hid (show decide (lt a b) = decide (a.1 < b.1) from by unfold lt; simp [h2])
      clear h2
      go_enter Try.func51, Try.ntmps51
      go_wp2_with fail
      go_ret
      exact ⟨by rw [e.out]; rfl, low⟩
    · have t2 : (a.2 == b.2) = false := by simpa using h2
      have e := Lib.hid (show decide (lt a b) = false from decide_eq_false (by unfold lt; omega))
      clear h2
      go_enter Try.func51, Try.ntmps51
      go_wp2_with fail
      go_ret
      exact ⟨by rw [e.out]; rfl, low⟩
set_option maxRecDepth 100000 in
set_option maxHeartbeats 2000000 in
theorem rat_any {V : World} {q : Nat} {sl : Value} {S : List Dl} (h : RQ V q sl S) (ho : Ok S) (id : Int) : Calls Try.prog 17 #[.pointer (some ⟨q, 0, none⟩), .int .i64 id] V fun x V' => x = .returned (atV S id) ∧ V = V' := by
  obtain ⟨A, cap, rfl⟩ := own_form h.row
  have c0 := h.blk.cell 0 _ rfl
  have HR := Lib.hid h.row
  have HOk := Lib.hid ho
  have h256 := ho.len
  obtain ⟨n, hn⟩ : ∃ n, n = S.length := ⟨_, rfl⟩
  rw [← hn] at c0 h256
  replace hn := Lib.hid hn
  clear h ho
  go_enter Try.func17, Try.ntmps17
  go_wp2_with fail
  go_loop [6] (fun iv => ∃ k : Nat, k ≤ n ∧ iv = .int .i64 (k : Int) ∧ Hid (∀ d ∈ S.take k, d.1 ≠ id)) (fun iv => n - (intOf iv).toNat)
  case atStart => exact ⟨0, Nat.zero_le _, rfl, Lib.hid (by simp)⟩
  case round =>
    obtain ⟨k, hk, rfl, hno⟩ := hrel
    by_cases hlt : k < n
    · obtain ⟨g, cap', e, d0, d1⟩ := rrow_at HR.out (k := k) (by rw [← hn.out]; exact hlt)
      injection e with e1 e2 e3
      subst e1 e3
      have HT := Lib.hid (nt_get (L := S) (i := k) (by rw [← hn.out]; exact hlt))
      have HH := Lib.hid (fun (e : (nt S k).1 = id) => at_hit (by rw [← hn.out]; exact hlt) HOk.out.ids e)
      generalize nt S k = d at *
      clear e2
      have i2 : (0 : Int) ≤ (k : Int) := by omega
      have i3 : (k : Int) < (n : Int) := by omega
      by_cases hd : d.1 = id
      · have e5 : (d.1 == id) = true := by simpa using hd
        have e6 := Lib.hid (HH.out hd)
        clear hd
        go_wp2_with fail
        refine bodyPost_ret (v := atV S id) ?_ rfl ⟨rfl, rfl⟩
        unfold atV
        rw [e6.out]
        simp [results, Try.results17, go_sem]
      · have e5 : (d.1 == id) = false := by simpa using hd
        have hno2 : Hid (∀ y ∈ S.take (k + 1), y.1 ≠ id) := Lib.hid (by
          intro y hy
          rw [List.take_add_one, HT.out] at hy
          rcases List.mem_append.1 hy with hy | hy
          · exact hno.out y hy
          · simp at hy
            subst hy
            exact hd)
        go_wp2_with fail
        go_round
        case rel => exact ⟨k + 1, by omega, by go_num, hno2⟩
        case measure => simp [intOf]; omega
    · obtain rfl : k = n := by omega
      have e6 : Hid (atE S id = (0, false)) := Lib.hid (at_miss (by
        have := hno.out
        rw [hn.out, List.take_length] at this
        rw [← Bool.not_eq_true, has_iff]
        rintro ⟨d, hd, e⟩
        exact this d hd e))
      go_wp2_with fail
      refine bodyPost_ret (v := atV S id) ?_ rfl ⟨rfl, rfl⟩
      unfold atV
      rw [e6.out]
      simp [results, Try.results17, go_sem]
set_option maxRecDepth 100000 in
set_option maxHeartbeats 2000000 in
theorem rnext_any {V : World} {q : Nat} {sl : Value} {S : List Dl} (h : RQ V q sl S) : Calls Try.prog 19 #[.pointer (some ⟨q, 0, none⟩)] V fun x V' => x = .returned (nextV S) ∧ Below V.heap.size V V' := by
  obtain ⟨A, cap, rfl⟩ := own_form h.row
  have c0 := h.blk.cell 0 _ rfl
  cases S with
  | nil =>
    go_enter Try.func19, Try.ntmps19
    go_wp2_with fail
    exact bodyPost_ret (v := nextV []) (by simp [results, Try.results19, go_sem, nextE]) rfl ⟨rfl, Below.refl _ _⟩
  | cons d S =>
    obtain ⟨g, cap', e, d0, d1⟩ := rrow_at h.row (k := 0) (by simp)
    injection e with e1 e2 e3
    subst e1 e3
    simp only [Nat.zero_mul, Nat.zero_add] at d0 d1
    have e0 : nt (d :: S) 0 = d := rfl
    rw [e0] at d0 d1
    have t0 : (((d :: S).length : Int) == 0) = false := by simp; omega
    have hpos : 0 < (d :: S).length := by simp
    clear h e2 e0
    generalize (d :: S).length = n at *
    go_enter Try.func19, Try.ntmps19
    go_wp2_with fail
    go_quiet (fail)
    go_wp2_with fail
    exact bodyPost_ret (v := nextV (d :: S)) (by simp [results, Try.results19, go_sem, nextE]) rfl ⟨rfl, below_drewN' (Below.refl _ _) _⟩
end Go.Proofs.Ytinbaepligploaa
