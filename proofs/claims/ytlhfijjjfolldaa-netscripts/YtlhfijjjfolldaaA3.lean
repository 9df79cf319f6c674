/- slices.Delete of one text. -/
import Derived.Test.YtlhfijjjfolldaaA2
namespace Go.Proofs.Ytlhfijjjfolldaa
open Go.RowKit Go.Maps

/-- Cells laid one behind the other. -/
def setMany (cs : Array Value) : Nat → List Value → Array Value
  | _, [] => cs
  | o, v :: r => setMany (cs.set! o v) (o + 1) r
theorem setMany_size : ∀ (vs : List Value) (o : Nat) (cs : Array Value), (setMany cs o vs).size = cs.size
  | [], _, _ => rfl
  | v :: r, o, cs => by
    show (setMany (cs.set! o v) (o + 1) r).size = _
    rw [setMany_size r (o + 1)]
    simp
theorem setMany_get : ∀ (vs : List Value) (o : Nat) (cs : Array Value) (k : Nat), o + vs.length ≤ cs.size → (setMany cs o vs)[k]? = if o ≤ k ∧ k < o + vs.length then vs[k - o]? else cs[k]?
  | [], o, cs, k, _ => by
    rw [if_neg (by simp)]
    rfl
  | v :: r, o, cs, k, h => by
    have hl : (v :: r).length = r.length + 1 := rfl
    rw [hl] at h
    show (setMany (cs.set! o v) (o + 1) r)[k]? = _
    rw [setMany_get r (o + 1) (cs.set! o v) k (by simp; omega), hl]
    by_cases h1 : o + 1 ≤ k ∧ k < o + 1 + r.length
    · rw [if_pos h1, if_pos (by omega)]
      have e : k - o = (k - (o + 1)) + 1 := by omega
      rw [e]
      rfl
    · rw [if_neg h1]
      by_cases h2 : k = o
      · subst h2
        rw [if_pos (by omega)]
        have hlt : k < cs.size := by omega
        simp [Array.set!_eq_setIfInBounds, hlt]
      · rw [if_neg (by omega)]
        simp [Array.set!_eq_setIfInBounds, Ne.symm h2]
theorem Bk.setMany_ {g : Nat} {t : TypeId} : ∀ (vs : List Value) (o : Nat) (w : World) (cs : Array Value), Bk w g t cs → Bk (w.setCells g o vs) g t (setMany cs o vs)
  | [], _, _, _, h => h
  | v :: r, o, _, _, h => Bk.setMany_ r (o + 1) _ _ (h.set o v)
theorem sc_other {g k : Nat} (hk : k ≠ g) : ∀ (vs : List Value) (o : Nat) (w : World), (w.setCells g o vs).heap[k]? = w.heap[k]?
  | [], _, _ => rfl
  | _ :: r, o, _ => (sc_other hk r (o + 1) _).trans (Below.heap_setCell _ _ _ _ hk)
theorem sc_rest (g : Nat) : ∀ (vs : List Value) (o : Nat) (w : World), (w.setCells g o vs).os = w.os ∧ (w.setCells g o vs).tape = w.tape ∧ (w.setCells g o vs).output = w.output ∧ w.heap.size ≤ (w.setCells g o vs).heap.size
  | [], _, _ => ⟨rfl, rfl, rfl, Nat.le_refl _⟩
  | v :: r, o, w => by
    obtain ⟨h1, h2, h3, h4⟩ := sc_rest g r (o + 1) (w.setCell ⟨g, o, none⟩ v)
    exact ⟨h1.trans rfl, h2.trans rfl, h3.trans rfl, Nat.le_trans (by simp [World.setCell]) h4⟩
theorem grown_cells (w : World) (g o : Nat) (vs : List Value) : w.grownBy (w.setCells g o vs) (some g) := by
  obtain ⟨h1, h2, h3, h4⟩ := sc_rest g vs o w
  exact ⟨h1, h2, h3, h4, fun k _ hne => sc_other (fun e => hne (by rw [e])) vs o w⟩
theorem info9 : (Try.prog.info? 9).map (fun i => (i.zero, i.size, i.bytes)) = some (some (.string ⟨#[]⟩), 1, 16) := by kernel_rfl
theorem zero9 (w : World) : (zeroValue 9).run Try.prog w = .ok (.string ⟨#[]⟩) w := by kernel_rfl
/-- The row behind the two moves. -/
theorem del_row {cur : Array Value} {l : List Str} {cap i : Nat} (hs : cur.size = cap) (hc : l.length ≤ cap) (ht : cur.toList.take l.length = sv l) (hi : i < l.length) :
    (setMany (setMany cur i (sv (l.drop (i + 1)))) (l.length - 1) [.string ⟨#[]⟩]).toList.take (l.length - 1) = sv (l.eraseIdx i) := by
  have hd : (sv (l.drop (i + 1))).length = l.length - (i + 1) := by rw [sv_len, List.length_drop]
  apply List.ext_getElem?
  intro k
  rw [List.getElem?_take, sv_get, List.getElem?_eraseIdx]
  by_cases hk : k < l.length - 1
  · rw [if_pos hk, Array.getElem?_toList, setMany_get _ _ _ _ (by rw [setMany_size]; simp; omega), if_neg (by simp; omega), setMany_get _ _ _ _ (by rw [hd]; omega), hd]
    have hcur : ∀ j, j < l.length → cur[j]? = (l[j]?).map Value.string := fun j hj => by
      rw [← sv_get, ← ht, List.getElem?_take, if_pos hj]
      simp
    by_cases h1 : k < i
    · rw [if_neg (by omega), if_pos h1, hcur k (by omega)]
    · rw [if_pos (by omega), if_neg h1, sv_get, List.getElem?_drop]
      have e : i + 1 + (k - i) = k + 1 := by omega
      rw [e]
  · rw [if_neg hk]
    have : ¬ k < i := by omega
    rw [if_neg this, List.getElem?_eq_none (by omega)]
    rfl
set_option maxHeartbeats 4000000 in
set_option maxRecDepth 1000000 in
theorem delete_any {w : World} {B g cap : Nat} {l : List Str} (h : w.ownsRow B 9 1 (.slice (some ⟨g, 0, none⟩) l.length cap) l.length (sv l)) (i j n : Nat) (hj : j = i + 1) (hn : n = l.length) (hi : i < n) :
    Calls Try.prog 30 #[.slice (some ⟨g, 0, none⟩) n cap, .int .i64 i, .int .i64 j] w fun e w' => e = .returned (.slice (some ⟨g, 0, none⟩) (n - 1) cap) ∧ w'.ownsRow B 9 1 (.slice (some ⟨g, 0, none⟩) (n - 1) cap) (n - 1) (sv (l.eraseIdx i)) ∧ w.grownBy w' (some g) := by
  obtain ⟨i0, hi0, hz0, hz1, hz2⟩ := info_parts info9
  rcases h.2 with ⟨e, _⟩ | ⟨g', cap', cur, e, hB, hg, hnc, hcm, hcs, ht⟩
  · cases e
  injection e with e _ e2
  cases e
  subst e2
  rw [Nat.mul_one] at hcs ht
  have hbk : Bk w g 9 cur := hg
  have hm : cap ≤ 9223372036854775807 := by unfold maxLen at hcm; omega
  have hjn : j ≤ n := by omega
  have hnc' : n ≤ cap := by omega
  obtain ⟨news, hnews⟩ : ∃ news, news = sv (l.drop j) := ⟨_, rfl⟩
  have hlen : news.length = n - j := by rw [hnews, sv_len, List.length_drop, hn]
  have hcur : ∀ t, t < n → cur[t]? = (l[t]?).map Value.string := fun t hj => by
    rw [← sv_get, ← ht, List.getElem?_take, if_pos (by omega)]
    simp
  have hget : ∀ t u, news[t]? = some u → w.cell? ⟨g, j + t, none⟩ = some u := by
    intro t u hu
    have hlt : t < n - j := by
      have := (List.getElem?_eq_some_iff.1 hu).1
      rwa [hlen] at this
    refine hbk.cell (j + t) u ?_
    rw [hcur (j + t) (by omega), ← hu, hnews, sv_get, List.getElem?_drop]
  obtain ⟨A, hA, hsrc⟩ : ∃ A : Addr, (if cap = j then some (⟨g, 0, none⟩ : Addr) else some ⟨g, j, none⟩) = some A ∧ Hid (∀ t u, news[t]? = some u → w.drew.cell? (A.add t) = some u) := by
    by_cases hc : cap = j
    · refine ⟨⟨g, 0, none⟩, by simp [hc], fun t u hu => ?_⟩
      have h0 : news.length = 0 := by rw [hlen]; omega
      rw [List.length_eq_zero_iff.1 h0] at hu
      simp at hu
    · refine ⟨⟨g, j, none⟩, by simp [hc], fun t u hu => ?_⟩
      have ha : (⟨g, j, none⟩ : Addr).add t = ⟨g, j + t, none⟩ := by unfold Addr.add; split <;> simp_all
      rw [ha]
      exact hget t u hu
  have hsome : ∀ t, t < n → (w.drew.cell? ⟨g, t, none⟩).isSome = true ∧ w.drew.frozen? ⟨g, t, none⟩ = false := fun t ht0 => by
    refine ⟨?_, hbk.frozen t⟩
    have : (w.drew.cell? ⟨g, t, none⟩) = cur[t]? := (cell_of_row w g t cur 9 (0, 0) hg)
    rw [this, Array.getElem?_eq_getElem (by omega)]
    rfl
  have s1 : Hid (news.length = (n - j) * 1) := by rw [Nat.mul_one]; exact hlen
  have s2 : Hid (∀ u ∈ news, u.oneCell' = true) := by
    intro u hu
    rw [hnews] at hu
    exact sv_ones _ u hu
  have s3 : Hid (∀ t, t < news.length → (w.drew.cell? ⟨g, 0 + i * 1 + t, none⟩).isSome = true ∧ w.drew.frozen? ⟨g, 0 + i * 1 + t, none⟩ = false) := by
    intro t ht0
    rw [hlen] at ht0
    have e : 0 + i * 1 + t = i + t := by omega
    rw [e]
    exact hsome (i + t) (by omega)
  obtain ⟨W1, hW1⟩ : ∃ W1, W1 = w.drew.setCells g (0 + i * 1) news := ⟨_, rfl⟩
  have k1 : Bk W1 g 9 (setMany cur i news) := by
    rw [hW1]
    have e : 0 + i * 1 = i := by omega
    rw [e]
    exact Bk.setMany_ _ _ _ _ hbk.drew
  have hsz : (setMany cur i news).size = cap := by rw [setMany_size, hcs]
  have hcl : ∀ ty, (Builtin.clear_ #[30] ty #[.slice (some ⟨g, i + (n - j), none⟩) (n - (i + (n - j))) (cap - (i + (n - j)))]).run Try.prog W1 = .ok (.tuple #[]) (W1.setCells g (i + (n - j)) (List.replicate (n - (i + (n - j))) (.string ⟨#[]⟩))) :=
    fun ty => Lib.run_clear_slice W1 30 9 ty _ Try.underlying30 zero9 rfl rfl g (i + (n - j)) _ _ (by omega) (fun t ht0 => by
      rw [cell_of_row W1 g _ _ 9 (0, 0) k1, Array.getElem?_eq_getElem (by omega)]
      rfl) (fun t _ => k1.frozen _)
  have hend : Hid ((W1.setCells g (i + (n - j)) (List.replicate (n - (i + (n - j))) (.string ⟨#[]⟩))).ownsRow B 9 1 (.slice (some ⟨g, 0, none⟩) (n - 1) cap) (n - 1) (sv (l.eraseIdx i)) ∧ w.grownBy (W1.setCells g (i + (n - j)) (List.replicate (n - (i + (n - j))) (.string ⟨#[]⟩))) (some g)) := by
    have e1 : i + (n - j) = l.length - 1 := by omega
    have e2 : n - (i + (n - j)) = 1 := by omega
    rw [e2, e1]
    have k2 : Bk (W1.setCells g (l.length - 1) [.string ⟨#[]⟩]) g 9 _ := Bk.setMany_ _ _ _ _ k1
    refine ⟨⟨?_, .inr ⟨g, cap, _, rfl, hB, k2, by omega, hcm, ?_, ?_⟩⟩, ?_⟩
    · rw [sv_len, List.length_eraseIdx, if_pos (by omega)]
      omega
    · rw [setMany_size, hsz, Nat.mul_one]
    · rw [Nat.mul_one, hnews, hj, hn]
      exact del_row hcs (by omega) ht (by omega)
    · have a1 : w.grownBy w.drew (some g) := ⟨rfl, rfl, rfl, Nat.le_refl _, fun _ _ _ => rfl⟩
      have a2 := grown_cells w.drew g (0 + i * 1) news
      rw [← hW1] at a2
      have a3 := grown_cells W1 g (l.length - 1) [.string ⟨#[]⟩]
      refine ⟨a3.os.trans (a2.os.trans a1.os), a3.tape.trans (a2.tape.trans a1.tape), a3.output.trans (a2.output.trans a1.output), Nat.le_trans a1.size (Nat.le_trans a2.size a3.size), fun t ht0 hne => ?_⟩
      exact (a3.block t (Nat.lt_of_lt_of_le ht0 a2.size) hne).trans ((a2.block t ht0 hne).trans rfl)
  have hW : Hid (W1 = w.drew.setCells g (0 + i * 1) news) := hW1
  have hnj := Lib.hid (show n - 1 = i + (n - j) by omega)
  have hic : i ≤ cap := by omega
  have hjc : j ≤ cap := by omega
  have hne : ¬ ((i : Int) = (j : Int)) := by omega
  have hij : i ≤ j := by omega
  have hlt : i < j := by omega
  clear hW1 hget hnews hlen hsome k1 hsz hbk hcur ht hcs hcm hnc hg hB hj hn h
  go_enter Try.func30, Try.ntmps30
  go_wp2_with fail
  go_region_law (refine step_append_room rfl (.tmp 22) (.tmp 25) 30 rfl 9 i0 1 Try.underlying30 hi0 hz1 g 0 i cap (by simp [Act.eval, Act.put]) A (n - j) (cap - j) news (by simp [Act.eval, Act.put]) s1.out hsrc.out s2.out (by omega) s3.out ?_; rw [← hW.out])
  go_wp2_with fail
  go_ret
  exact ⟨by rw [hnj.out]; rfl, hend.out⟩
end Go.Proofs.Ytlhfijjjfolldaa
