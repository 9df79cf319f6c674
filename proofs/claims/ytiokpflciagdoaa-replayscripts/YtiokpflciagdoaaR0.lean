/- What the laws over scripts need: the cache beside a credential's box; plain facts on Use and Revoke. -/
import Derived.Test.YtiokpflciagdoaaS1
import Derived.Test.YtiokpflciagdoaaL1
namespace Go.Proofs.Ytiokpflciagdoaa
open Go.RowKit Go.Maps

/-- A cache, and a credential's box beside it. -/
structure Rm (w V : World) (g p bk bt : Nat) (cs : Array Value) (most : Int) (L : List (Pl × Int)) (T : List (Jb × Int)) : Prop where
  box : Bk V g 31 cs
  cache : CacheAt V p bk bt most L T
  low : Below w.heap.size w V
  nk : g ≠ bk ∧ w.heap.size ≤ bk
  nt : g ≠ bt ∧ w.heap.size ≤ bt
section
variable {w V V' : World} {g p bk bt : Nat} {cs : Array Value} {most : Int} {L L' : List (Pl × Int)} {T T' : List (Jb × Int)}
theorem Rm.next (h : Rm w V g p bk bt cs most L T) (hb : Below V.heap.size V V') : Rm w V' g p bk bt cs most L T :=
  ⟨h.box.next hb, h.cache.next hb, h.low.trans (hb.mono h.low.size), h.nk, h.nt⟩
theorem Rm.hid (h : Rm w V g p bk bt cs most L T) (e : Hid (V' = V.drew)) : Rm w V' g p bk bt cs most L T :=
  ⟨h.box.hid e, h.cache.hid e, below_hid h.low e, h.nk, h.nt⟩
theorem Rm.turnK (h : Rm w V g p bk bt cs most L T) (hc : CacheAt V' p bk bt most L' T) (hg : V.grownBy V' (some bk)) : Rm w V' g p bk bt cs most L' T :=
  ⟨h.box.grown hg h.nk.1, hc, h.low.grown hg h.low.size (fun j ej => by cases ej; exact h.nk.2), h.nk, h.nt⟩
theorem Rm.turnT (h : Rm w V g p bk bt cs most L T) (hc : CacheAt V' p bk bt most L T') (hg : V.grownBy V' (some bt)) : Rm w V' g p bk bt cs most L T' :=
  ⟨h.box.grown hg h.nt.1, hc, h.low.grown hg h.low.size (fun j ej => by cases ej; exact h.nt.2), h.nk, h.nt⟩
def Cr.pl (x : Cr) (h : wf x.j ∧ wf x.e ∧ wf x.s) : Pl := ⟨x.j, x.e, x.s, h⟩
abbrev chkC (x : Cr) : Bool := chk x.j x.e x.s x.f x.u x.c x.n x.zs
theorem CrAt.pk {x : Cr} (h : CrAt w x) : wf x.j ∧ wf x.e ∧ wf x.s := ⟨h.wj, h.we, h.ws⟩
theorem Rm.use (st : Rm w V g p bk bt cs most L T) (x : Cr) (hx : CrAt w x) (now : Int) (hL : L.length ≤ 1000) :
    Calls Try.prog 18 #[.pointer (some ⟨p, 0, none⟩), .agg #[.int .i64 x.j, .int .i64 x.e, .int .i64 x.s, .int .i64 x.f, .int .i64 x.u, .slice x.A x.n x.cap, .int .i64 x.c], .int .i64 now] V fun e w' =>
      e = .returned (.int .i64 (useOf (chkC x) most L T (x.pl hx.pk) x.u now).1) ∧ Rm w w' g p bk bt cs most (useOf (chkC x) most L T (x.pl hx.pk) x.u now).2 T :=
  (use_any st.cache (x.pl hx.pk) x.f x.u x.A x.n x.cap x.c now x.zs (hx.ints.next st.low) hx.len hx.max hx.wu hL).mono fun _ _ ⟨he, hc, hg⟩ => ⟨he, st.turnK hc hg⟩
theorem Rm.rev (st : Rm w V g p bk bt cs most L T) (j : Jb) (e : Int) (hwe : wf e) (hT : T.length ≤ 64) :
    Calls Try.prog 19 #[.pointer (some ⟨p, 0, none⟩), .int .i64 j.n, .int .i64 e] V fun x w' => x = .returned (.int .i64 (revOf T j e).1) ∧ Rm w w' g p bk bt cs most L (revOf T j e).2 :=
  (rev_any st.cache j e hwe hT).mono fun _ _ ⟨he, hc, hg⟩ => ⟨he, st.turnT hc hg⟩
theorem Rm.len (st : Rm w V g p bk bt cs most L T) : Calls Try.prog 13 #[.pointer (some ⟨p, 0, none⟩)] V fun e w' => e = .returned (.int .i64 L.length) ∧ V = w' := len_any st.cache
end
/-- What Use leaves: what lasts, and perhaps one more. -/
theorem useOf_cases (ok : Bool) (most : Int) (L : List (Pl × Int)) (T : List (Jb × Int)) (x : Pl) (u now : Int) :
    (useOf ok most L T x u now).2 = L ∧ (useOf ok most L T x u now).1 ≠ 0 ∨ (useOf ok most L T x u now).2 = keep now L ∧ (useOf ok most L T x u now).1 ≠ 0 ∧ now < u ∨ (useOf ok most L T x u now) = (0, keep now L ++ [(x, u)]) ∧ now < u ∧ ¬ most ≤ (keep now L).length ∧ hasL (keep now L) x = false ∧ ok = true ∧ revB T x.jb x.e = false := by
  unfold useOf
  split
  · exact .inl ⟨rfl, by simp⟩
  · rename_i hok
    split
    · exact .inl ⟨rfl, by simp⟩
    · split
      · exact .inl ⟨rfl, by simp⟩
      · rename_i hu hrv
        split
        · exact .inr (.inl ⟨rfl, by simp, by omega⟩)
        · rename_i hh
          split
          · exact .inr (.inl ⟨rfl, by simp, by omega⟩)
          · rename_i hm
            exact .inr (.inr ⟨rfl, by omega, hm, by simpa using hh, by simpa using hok, by simpa using hrv⟩)
theorem useOf_length {most : Int} {L : List (Pl × Int)} (h : (L.length : Int) ≤ most) (ok : Bool) (T : List (Jb × Int)) (x : Pl) (u now : Int) : ((useOf ok most L T x u now).2.length : Int) ≤ most := by
  have hk := keep_length now L
  rcases useOf_cases ok most L T x u now with ⟨e, _⟩ | ⟨e, _⟩ | ⟨e, _, hm, _⟩
  · rw [e]; exact h
  · rw [e]; omega
  · rw [e]
    show ((keep now L ++ [(x, u)]).length : Int) ≤ most
    rw [List.length_append, List.length_singleton]
    omega
theorem keep_mem {now : Int} {L : List (Pl × Int)} {y : Pl × Int} : y ∈ keep now L ↔ y ∈ L ∧ now < y.2 := by
  unfold keep
  rw [List.mem_filter]
  simp
theorem useOf_until {most last : Int} {L : List (Pl × Int)} (h : ∀ y ∈ L, y.2 ≤ last) (ok : Bool) (T : List (Jb × Int)) (x : Pl) (u now : Int) : ∀ y ∈ (useOf ok most L T x u now).2, y.2 ≤ max last u := by
  intro y hy
  rcases useOf_cases ok most L T x u now with ⟨e, _⟩ | ⟨e, _⟩ | ⟨e, _⟩
  · rw [e] at hy
    have := h y hy
    omega
  · rw [e] at hy
    have := h y (keep_mem.1 hy).1
    omega
  · rw [e] at hy
    have hy' : y ∈ keep now L ++ [(x, u)] := hy
    rcases List.mem_append.1 hy' with h1 | h1
    · have := h y (keep_mem.1 h1).1
      omega
    · rw [List.mem_singleton] at h1
      rw [h1]
      show u ≤ max last u
      omega
/-- Behind all Untils there is room. -/
theorem useOf_room {most last : Int} {L : List (Pl × Int)} (hm : 1 ≤ most) (h : ∀ y ∈ L, y.2 ≤ last) (x : Pl) {u : Int} (hu : last < u) : useOf true most L [] x u last = (0, [(x, u)]) := by
  have hk : keep last L = [] := by
    rw [List.eq_nil_iff_forall_not_mem]
    intro y hy
    have h1 := keep_mem.1 hy
    have h2 := h y h1.1
    omega
  unfold useOf
  rw [if_neg (by simp), if_neg (by omega), if_neg (by simp [revB, hasL]), hk, if_neg (by simp [hasL]), if_neg (by simp; omega)]
  rfl
end Go.Proofs.Ytiokpflciagdoaa
