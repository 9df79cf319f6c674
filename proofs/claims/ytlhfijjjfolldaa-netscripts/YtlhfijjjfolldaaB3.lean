/- Few calls of few messages; how often a text is in a list. -/
import Derived.Test.YtlhfijjjfolldaaB2
namespace Go.Proofs.Ytlhfijjjfolldaa
open Go.RowKit Go.Maps

/-- What small tells. -/
def SmP (os : List Oq) (n : Nat) (m : Int) (e : Ending) : Prop := ∃ b : Bool, e = .returned (.bool b) ∧ Hid (b = true → (n : Int) ≤ m ∧ ∀ o ∈ os, o.zs.length ≤ 50)
set_option maxRecDepth 100000 in
set_option maxHeartbeats 2000000 in
theorem small_any (A : Option Addr) (n cap : Nat) (os : List Oq) (m : Int) (w : World) (h : Sq w A n os) :
    Calls Try.prog 8 #[.slice A n cap, .int .i64 m] w fun e w' => SmP os n m e ∧ w = w' := by
  have H := Lib.hid h
  have hm := h.most
  unfold maxLen at hm
  clear h
  go_enter Try.func8, Try.ntmps8
  go_wp2_with fail
  go_loopg [5] n (fun g s5 wr => ∃ k : Nat, k + g = n ∧ s5 = .int .i64 k ∧ wr = w ∧ Hid (∀ j o, j < k → os[j]? = some o → o.zs.length ≤ 50))
  case atStart => exact ⟨0, by omega, rfl, rfl, Lib.hid (fun j o hj => by omega)⟩
  case round =>
    obtain ⟨k, hk, rfl, rfl, HR⟩ := hrel
    cases gk with
    | zero =>
      obtain rfl : k = n := by omega
      have hlt : ¬ ((k : Int) < (k : Int)) := by omega
      have HX := Lib.hid (show decide ((k : Int) ≤ m) = true → (k : Int) ≤ m ∧ ∀ o ∈ os, o.zs.length ≤ 50 from fun hb => ⟨of_decide_eq_true hb, fun o ho => by
        obtain ⟨j, hj, e⟩ := List.getElem_of_mem ho
        exact HR.out j o (by rw [← H.out.len]; exact hj) (by rw [List.getElem?_eq_getElem hj, e])⟩)
      go_wp2_with fail
      go_ret
      exact ⟨⟨decide ((k : Int) ≤ m), rfl, HX⟩, rfl⟩
    | succ g =>
      have i0 : (0 : Int) ≤ (k : Int) := by omega
      have i1 : (k : Int) < (n : Int) := by omega
      obtain ⟨o, ex⟩ : ∃ o, os[k]? = some o := ⟨_, List.getElem?_eq_getElem (by have := H.out.len; omega)⟩
      obtain ⟨ad, rfl, _, _, hat⟩ := H.out.still ex
      have c1 := (hat wr (Below.refl _ _)).c1
      have HE := Lib.hid ex
      clear ex hat
      by_cases h50 : (50 : Int) < (o.zs.length : Int)
      · have t0 : decide ((50 : Int) < (o.zs.length : Int)) = true := decide_eq_true h50
        go_wp2_with fail
        go_ret
        exact ⟨⟨false, rfl, Lib.hid (fun h => by cases h)⟩, rfl⟩
      · have t0 : decide ((50 : Int) < (o.zs.length : Int)) = false := decide_eq_false h50
        go_wp2_with fail
        go_roundg g
        case measure => omega
        case rel => exact ⟨k + 1, by omega, by go_num, rfl, Lib.hid (fun j y hj hy => by
          rcases Nat.lt_succ_iff_lt_or_eq.1 hj with q | q
          · exact HR.out j y q hy
          · subst q
            rw [HE.out] at hy
            cases hy
            omega)⟩
set_option maxRecDepth 100000 in
set_option maxHeartbeats 2000000 in
theorem count_any (A : Option Addr) (n cap : Nat) (zs : List Str) (s : Str) (w : World) (h : StrsAt w A zs) (hn : zs.length = n) (hl : n ≤ 1000000) :
    Calls Try.prog 18 #[.slice A n cap, .string s] w fun e w' => ∃ c : Nat, e = .returned (.int .i64 c) ∧ w = w' ∧ Hid (s ∈ zs → 0 < c) := by
  have H := Lib.hid h
  have HN := Lib.hid hn
  clear h hn
  go_enter Try.func18, Try.ntmps18
  go_wp2_with fail
  go_loopg [5, 6] n (fun g s5 s6 wr => ∃ k c : Nat, k + g = n ∧ s6 = .int .i64 k ∧ s5 = .int .i64 c ∧ c ≤ k ∧ wr = w ∧ Hid (s ∈ zs.take k → 0 < c))
  case atStart => exact ⟨0, 0, by omega, rfl, rfl, by omega, rfl, Lib.hid (fun h => by simp at h)⟩
  case round =>
    obtain ⟨k, c, hk, rfl, rfl, hc, rfl, HR⟩ := hrel
    cases gk with
    | zero =>
      obtain rfl : k = n := by omega
      have hlt : ¬ ((k : Int) < (k : Int)) := by omega
      go_wp2_with fail
      go_ret
      exact ⟨c, rfl, rfl, Lib.hid fun hb => HR.out (by rw [List.take_of_length_le (by have := HN.out; omega)]; exact hb)⟩
    | succ g =>
      have i0 : (0 : Int) ≤ (k : Int) := by omega
      have i1 : (k : Int) < (n : Int) := by omega
      obtain ⟨x, ex⟩ : ∃ x, zs[k]? = some x := ⟨_, List.getElem?_eq_getElem (by have := HN.out; omega)⟩
      obtain ⟨ad, rfl, _, c1⟩ := H.out.at_ ex
      have HE := Lib.hid (show zs.take (k + 1) = zs.take k ++ [x] from by rw [List.take_add_one, ex]; rfl)
      clear ex
      by_cases hx : x = s
      · subst hx
        have t0 := str_eq x
        go_wp2_with fail
        go_roundg g
        case measure => omega
        case rel => exact ⟨k + 1, c + 1, by omega, by go_num, by go_num, by omega, rfl, Lib.hid (fun _ => by omega)⟩
      · have t0 := str_ne hx
        have HX := Lib.hid hx
        clear hx
        go_wp2_with fail
        go_roundg g
        case measure => omega
        case rel => exact ⟨k + 1, c, by omega, by go_num, rfl, by omega, rfl, Lib.hid (fun hm => HR.out (by
          rw [HE.out] at hm
          rcases List.mem_append.1 hm with q | q
          · exact q
          · exact absurd (List.mem_singleton.1 q).symm HX.out))⟩
/-- A net, and a list of what was sent. -/
structure Cq (w0 w : World) (p : Nat) (m : Int) (v vS : Value) (L S : List Str) (k : Int) : Prop where
  net : NtAt w p m v L k
  row : w.ownsRow p 9 1 vS S.length (sv S)
  ap : ∀ g, v.ownBlock = some g → vS.ownBlock ≠ some g
  low : Below w0.heap.size w0 w
  hp : w0.heap.size ≤ p
section
variable {w0 w w' : World} {p n : Nat} {m k k' : Int} {v vS v' vS' : Value} {L S L' zs : List Str}
theorem Cq.next (h : Cq w0 w p m v vS L S k) (hb : Below w.heap.size w w') : Cq w0 w' p m v vS L S k := ⟨h.net.next hb, own_next h.row hb, h.ap, bmore h.low hb, h.hp⟩
theorem Cq.rown (h : Cq w0 w p m v vS L S k) {g : Nat} (e : vS.ownBlock = some g) : g ≠ p := by
  obtain ⟨_, cs, hk⟩ := row_bk h.row e
  exact bk_ne hk h.net.blk (by decide)
theorem Cq.turn (h : Cq w0 w p m v vS L S k) (n : NtAt w' p m v' L' k') (t : Tn w w' p v v') : Cq w0 w' p m v' vS L' S k' := by
  refine ⟨n, row_kept h.row fun g e => t.td.block g (h.row.lt g e).2 ?_, fun g e e2 => ?_, h.low.trans (t.below h.net h.hp), h.hp⟩
  · rintro (q | q)
    · exact h.rown e q
    · exact h.ap g q e
  · rcases t.nw g e with q | q
    · exact h.ap g q e2
    · have := (h.row.lt g e2).2
      omega
theorem Cq.sent (h : Cq w0 w p m v vS L S k) (hr : w'.ownsRow p 9 1 vS' (S.length + n) (sv S ++ sv zs)) (hn : zs.length = n) (hg : w.grownBy w' vS.ownBlock) (nw : vS'.ownBlock = vS.ownBlock ∨ vS'.ownBlock = some w.heap.size) : Cq w0 w' p m v vS' L (S ++ zs) k := by
  have t : Td (fun i => vS.ownBlock = some i) w w' := Td.grown hg fun g e => e
  refine ⟨h.net.td t (fun e => h.rown e rfl) fun g e e2 => h.ap g e e2, ?_, fun g e e2 => ?_, h.low.trans (t.below (fun i e => Nat.le_trans h.hp (h.row.lt i e).1) (Nat.le_trans h.hp (Nat.le_of_lt h.net.blk.lt))), h.hp⟩
  · rw [List.length_append, sv_app, hn]
    exact hr
  · rcases nw with q | q
    · exact h.ap g e (q ▸ e2)
    · rw [e2] at q
      have := (h.net.row.lt g e).2
      cases q
      omega
end
theorem mem_tkS {l : List Str} (h : l.isEmpty = false) (i : Int) : tkS l i ∈ l := by
  have hl : 0 < l.length := by
    cases l with
    | nil => cases h
    | cons => simp
  have hp := (plc_cast hl i).2
  unfold tkS
  rw [List.getElem?_eq_getElem hp]
  exact List.getElem_mem _
theorem mem_tkL {l : List Str} {i : Int} {s : Str} (h : s ∈ tkL l i) : s ∈ l := List.mem_of_mem_eraseIdx h
theorem len_tkL {l : List Str} (h : l.isEmpty = false) (i : Int) : (tkL l i).length + 1 = l.length := by
  have hl : 0 < l.length := by
    cases l with
    | nil => cases h
    | cons => simp
  have hp := (plc_cast hl i).2
  unfold tkL
  rw [List.length_eraseIdx, if_pos hp]
  omega
end Go.Proofs.Ytlhfijjjfolldaa
