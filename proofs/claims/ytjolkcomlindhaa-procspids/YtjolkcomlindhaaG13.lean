/- mask.Of of any ints, as a table asks it. -/
import Derived.Test.YtjolkcomlindhaaG12
import Derived.Test.YtjolkcomlindhaaMR4
namespace Go.Proofs.Ytjolkcomlindhaa
open Go.RowKit

open Classical in
/-- The error that mask.Of tells of these. -/
noncomputable def cE (zs : List Int) : Int := if Mo.Good zs then 0 else 1
theorem mo_ints {w : World} {A : Option Addr} {zs : List Int} (h : IntsAt w A zs) : Mo.IntsAt w w.heap.size A zs := h
theorem of_says {w : World} {A : Option Addr} {zs : List Int} {n cap : Nat} (hz : IntsAt w A zs) (hn : zs.length = n) (hl : n ≤ 1000) : OfSays w A n cap (cE zs) := fun V hb => by
  have hz1 := mo_ints (hz.next hb)
  rcases Mo.good_or zs zs.length (Nat.le_refl _) with hg | ⟨p, hp, hg, hd⟩
  · have hN := hz1.nats hg
    rw [List.take_length] at hg hN
    obtain ⟨a, b, c, d, e⟩ := vs4 (Mo.Mk.ofL_W4 (Mo.toN_lt hg))
    refine ⟨a, b, c, d, ?_⟩
    have := Mo.of_ok A cap (Mo.toN zs) V hN (Mo.toN_lt hg) (Mo.toN_nodup hg) (by rw [Mo.toN_len]; unfold maxLen; omega)
    rw [e, Mo.toN_len, hn] at this
    rw [show cE zs = 0 from if_pos hg]
    exact this
  · have hN := hz1.nats hg
    have hlen : (Mo.toN (zs.take p)).length = p := by rw [Mo.toN_len, List.length_take]; omega
    have hbad : ¬Mo.Good zs := fun q => by
      rcases hd with h | h | ⟨h1, h2, h3⟩
      · have hm : zs.getD p 0 ∈ zs := by
          rw [List.getD_eq_getElem?_getD, List.getElem?_eq_getElem hp]; exact List.getElem_mem hp
        have := (q.1 _ hm).1
        omega
      · have hm : zs.getD p 0 ∈ zs := by
          rw [List.getD_eq_getElem?_getD, List.getElem?_eq_getElem hp]; exact List.getElem_mem hp
        have := (q.1 _ hm).2
        omega
      · have hnd := q.2
        have e1 : zs.take (p + 1) = zs.take p ++ [zs.getD p 0] := by
          rw [List.take_add_one, List.getElem?_eq_getElem hp, List.getD_eq_getElem?_getD, List.getElem?_eq_getElem hp]; rfl
        have hnd2 : (zs.take (p + 1)).Nodup := hnd.sublist (List.take_sublist _ _)
        rw [e1, List.nodup_append] at hnd2
        exact hnd2.2.2 _ h3 _ (List.mem_singleton.2 rfl) rfl
    rw [show cE zs = 1 from if_neg hbad]
    rcases hz1 with e | ⟨ad, e, hbl, hcl⟩
    · rw [e] at hp; simp at hp
    · subst e
      have hcell := hcl p hp
      generalize zs.getD p 0 = z at *
      have hd' : z < 0 ∨ 256 ≤ z ∨ ∃ c : Nat, z = c ∧ c < 256 ∧ c ∈ Mo.toN (zs.take p) := by
        rcases hd with h | h | ⟨h1, h2, h3⟩
        · exact .inl h
        · exact .inr (.inl h)
        · exact .inr (.inr ⟨z.toNat, by omega, by omega, (Mo.toN_mem hg h1).2 h3⟩)
      exact ⟨0, 0, 0, 0, Mo.of_bad ad cap p n z _ V hN hbl hcell (Mo.toN_lt hg) (Mo.toN_nodup hg) (by unfold maxLen; omega) (by omega) hlen hd'⟩
end Go.Proofs.Ytjolkcomlindhaa
