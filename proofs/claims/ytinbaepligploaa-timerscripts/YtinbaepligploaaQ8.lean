/- The timer's functions: placeOf, New, Len, Next, At. -/
import Derived.Test.YtinbaepligploaaQ6
import Derived.Test.YtinbaepligploaaQ7
namespace Go.Proofs.Ytinbaepligploaa
open Go.RowKit Go.Shelf

/-- A queue that has these, in order. -/
def TQ (V : World) (p : Nat) (S : List Dl) : Prop := ∃ L, HQ V p L ∧ L.Perm S
theorem TQ.next {V V' : World} {p : Nat} {S : List Dl} (h : TQ V p S) (hb : Below V.heap.size V V') : TQ V' p S := by
  obtain ⟨L, h1, h2⟩ := h
  exact ⟨L, h1.next hb, h2⟩
theorem TQ.lt {V : World} {p : Nat} {S : List Dl} (h : TQ V p S) : p < V.heap.size := by
  obtain ⟨L, ⟨⟨v, hv⟩, _⟩, _⟩ := h
  exact hv.lt
set_option maxRecDepth 100000 in
set_option maxHeartbeats 1000000 in
theorem isId_any (d : Dl) (id : Int) (b : Nat) (V : World) (h : Bk V b 3 #[.int .i64 id]) : Calls Try.prog 53 #[.agg #[.int .i64 d.1, .int .i64 d.2], .pointer (some ⟨b, 0, none⟩)] V fun x V' => x = .returned (.bool (d.1 == id)) ∧ Below V.heap.size V V' := by
  have hb := below_alloc V (.cells #[.int .i64 d.1, .int .i64 d.2] 77)
  have c0 := (h.next hb).cell 0 _ rfl
  go_enter Try.func53, Try.ntmps53
  go_wp2_with fail
  go_ret
  exact ⟨rfl, hb⟩
/-- Where an id stands. -/
def PlOf (L : List Dl) (id : Int) (x : Ending) : Prop := (x = .returned (.int .i64 (-1)) ∧ hasI id L = false) ∨ ∃ k : Nat, k < L.length ∧ (nt L k).1 = id ∧ x = .returned (.int .i64 (k : Int))
set_option maxRecDepth 100000 in
set_option maxHeartbeats 4000000 in
theorem index_any {V : World} {p : Nat} {v : Value} {L : List Dl} (h : Row V p v L) (id : Int) (b : Nat) (kb : Bk V b 3 #[.int .i64 id]) (hm : L.length ≤ 1000) :
    Calls Try.prog 52 #[v, .func (.func 53) #[] #[.pointer (some ⟨b, 0, none⟩)]] V fun x V' => PlOf L id x ∧ Below V.heap.size V V' := by
  obtain ⟨A, cap, rfl⟩ := own_form h
  replace h := Lib.hid h
  replace kb := Lib.hid kb
  obtain ⟨n, hn⟩ : ∃ n, n = L.length := ⟨_, rfl⟩
  have HN := Lib.hid hn
  have hm' : n ≤ 1000 := by omega
  rw [← hn]
  clear hn hm
  go_enter Try.func52, Try.ntmps52
  go_wp2_with fail
  go_loopw [8] (fun iv wr => ∃ k : Nat, k ≤ n ∧ iv = .int .i64 (k : Int) ∧ Hid (∀ d ∈ L.take k, d.1 ≠ id) ∧ Below V.heap.size V wr) (fun iv _ => n - (intOf iv).toNat)
  case atStart => exact ⟨0, Nat.zero_le _, rfl, Lib.hid (by simp), Below.refl _ _⟩
  case round =>
    obtain ⟨k, hk, rfl, hno, hb⟩ := hrel
    by_cases hlt : k < n
    · have hr := own_next h.out hb
      obtain ⟨g, cap', e, -, d0, d1, -, -, -⟩ := row_at (p := p) (L := L) (k := k) hr (by rw [← HN.out]; exact hlt)
      injection e with e1 e2 e3
      subst e1 e3
      have K := Lib.hid (fun W (hW : Below V.heap.size V W) => isId_any (nt L k) id b W (kb.out.next hW))
      have HT := Lib.hid (nt_get (L := L) (i := k) (by rw [← HN.out]; exact hlt))
      generalize nt L k = d at *
      clear hr e2
      have i2 : (0 : Int) ≤ (k : Int) := by omega
      have i3 : (k : Int) < (n : Int) := by omega
      go_wp2_with fail
      refine (K.out _ hb).mono ?_
      rintro x w2 ⟨rfl, hb2⟩
      have hb3 := bmore hb hb2
      clear hb hb2 d0 d1
      by_cases hd : d.1 = id
      · have e5 : (d.1 == id) = true := by simpa using hd
        go_wp2_with fail
        go_ret
        refine ⟨.inr ⟨k, by rw [← HN.out]; exact hlt, ?_, rfl⟩, hb3⟩
        have := HT.out
        rw [nt_get (by rw [← HN.out]; exact hlt)] at this
        injection this with this
        rw [this]
        exact hd
      · have e5 : (d.1 == id) = false := by simpa using hd
        have hno2 : Hid (∀ y ∈ L.take (k + 1), y.1 ≠ id) := Lib.hid (by
          intro y hy
          rw [List.take_add_one, HT.out] at hy
          rcases List.mem_append.1 hy with hy | hy
          · exact hno.out y hy
          · simp at hy
            subst hy
            exact hd)
        go_wp2_with fail
        go_roundw
        case rel => exact ⟨k + 1, by omega, by go_num, hno2, hb3⟩
        case measure => simp [intOf]; omega
    · obtain rfl : k = n := by omega
      go_wp2_with fail
      go_ret
      refine ⟨.inl ⟨rfl, ?_⟩, hb⟩
      have := hno.out
      rw [HN.out, List.take_of_length_le (Nat.le_refl _)] at this
      rw [← Bool.not_eq_true, has_iff]
      rintro ⟨d, hd, e⟩
      exact this d hd e
set_option maxRecDepth 100000 in
set_option maxHeartbeats 1000000 in
theorem placeOf_any {V : World} {p : Nat} {v : Value} {L : List Dl} (h : Row V p v L) (id : Int) (hm : L.length ≤ 1000) :
    Calls Try.prog 40 #[v, .int .i64 id] V fun x V' => PlOf L id x ∧ Below V.heap.size V V' := by
  have hb := below_alloc V (.cells #[.int .i64 id] 3)
  have K := Lib.hid (index_any (own_next h hb) id V.heap.size (Bk.new V 3 #[.int .i64 id]) hm)
  go_enter Try.func40, Try.ntmps40
  go_wp2_with fail
  refine K.out.mono ?_
  rintro x w2 ⟨hp, hb2⟩
  have hb3 := bmore hb hb2
  rcases hp with ⟨rfl, h1⟩ | ⟨k, h1, h2, rfl⟩
  · go_wp2_with fail
    go_ret
    exact ⟨.inl ⟨rfl, h1⟩, hb3⟩
  · go_wp2_with fail
    go_ret
    exact ⟨.inr ⟨k, h1, h2, rfl⟩, hb3⟩
set_option maxRecDepth 100000 in
theorem new_any (V : World) : Calls Try.prog 14 #[] V fun x V' => x = .returned (.pointer (some ⟨V.heap.size, 0, none⟩)) ∧ TQ V' V.heap.size [] ∧ Below V.heap.size V V' := by
  go_enter Try.func14, Try.ntmps14
  go_wp2_with fail
  go_ret
  exact ⟨rfl, ⟨[], ⟨⟨_, Bk.new _ _ _, World.ownsRow_nil _ _ _ _⟩, fun k k0 kn => by simp at kn⟩, List.Perm.refl _⟩, below_alloc _ _⟩
set_option maxRecDepth 100000 in
theorem tlen_any {V : World} {p : Nat} {S : List Dl} (h : TQ V p S) : Calls Try.prog 20 #[.pointer (some ⟨p, 0, none⟩)] V fun x V' => x = .returned (.int .i64 (S.length : Int)) ∧ V = V' := by
  obtain ⟨L, ⟨⟨v, hv⟩, _⟩, hp⟩ := h
  obtain ⟨A, cap, rfl⟩ := own_form hv.row
  have c0 := hv.blk.cell 0 _ rfl
  rw [← hp.length_eq]
  go_enter Try.func20, Try.ntmps20
  go_wp2_with fail
  go_ret
  exact ⟨rfl, rfl⟩
abbrev nextV (S : List Dl) : Value := .tuple #[.int .i64 (nextE S).1, .int .i64 (nextE S).2.1, .bool (nextE S).2.2]
set_option maxRecDepth 100000 in
set_option maxHeartbeats 1000000 in
theorem next_any {V : World} {p : Nat} {S : List Dl} (h : TQ V p S) (ho : Ok S) : Calls Try.prog 18 #[.pointer (some ⟨p, 0, none⟩)] V fun x V' => x = .returned (nextV S) ∧ Below V.heap.size V V' := by
  have K := Lib.hid (tlen_any h)
  obtain ⟨L, ⟨⟨v, hv⟩, hh⟩, hp⟩ := h
  cases S with
  | nil =>
    go_enter Try.func18, Try.ntmps18
    go_wp2_with fail
    refine K.out.mono ?_
    rintro x w2 ⟨rfl, rfl⟩
    go_wp2_with fail
    exact bodyPost_ret (v := nextV []) (by simp [results, Try.results18, go_sem, nextE]) rfl ⟨rfl, Below.refl _ _⟩
  | cons d S =>
    have e0 : nt L 0 = d := hh.head hp ho.srt
    have hl := hp.length_eq
    simp at hl
    obtain ⟨g, cap, rfl, -, d0, d1, -, -, -⟩ := row_at hv.row (k := 0) (by omega)
    rw [e0] at d0 d1
    simp only [Nat.zero_mul, Nat.zero_add] at d0 d1
    have c0 := hv.blk.cell 0 _ rfl
    have t0 : (((d :: S).length : Int) == 0) = false := by simp; omega
    have hpos : 0 < L.length := by omega
    clear hp hl hh ho e0
    generalize L.length = n at *
    go_enter Try.func18, Try.ntmps18
    go_wp2_with fail
    refine K.out.mono ?_
    rintro x w2 ⟨rfl, rfl⟩
    go_wp2_with fail
    go_quiet (fail)
    go_wp2_with fail
    exact bodyPost_ret (v := nextV (d :: S)) (by simp [results, Try.results18, go_sem, nextE]) rfl ⟨rfl, below_drewN' (below_alloc _ _) _⟩
end Go.Proofs.Ytinbaepligploaa
