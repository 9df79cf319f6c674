/- Queues as lists in order, with no program in it. -/
import Derived.Test.YtinbaepligploaaQ0
namespace Go.Proofs.Ytinbaepligploaa

/-- Without that id. -/
def del (id : Int) (S : List Dl) : List Dl := S.filter fun d => decide (d.1 ≠ id)
def hasI (id : Int) (S : List Dl) : Bool := S.any fun d => decide (d.1 = id)
/-- Each id once. -/
def Ids : List Dl → Prop
  | [] => True
  | x :: S => (∀ y ∈ S, y.1 ≠ x.1) ∧ Ids S
theorem ids_perm {S T : List Dl} (h : S.Perm T) : Ids S → Ids T := by
  induction h with
  | nil => exact id
  | cons x hp ih => exact fun ⟨h1, h2⟩ => ⟨fun y hy => h1 y (hp.mem_iff.2 hy), ih h2⟩
  | swap x y l =>
    rintro ⟨h1, h2, h3⟩
    exact ⟨fun z hz => by rcases List.mem_cons.1 hz with rfl | hz; exact fun e => h1 x (List.mem_cons_self ..) e.symm; exact h2 z hz, fun z hz => h1 z (List.mem_cons_of_mem _ hz), h3⟩
  | trans _ _ i1 i2 => exact fun h => i2 (i1 h)
theorem ids_filter (f : Dl → Bool) : ∀ S : List Dl, Ids S → Ids (S.filter f)
  | [], _ => trivial
  | y :: S, h => by
    rw [List.filter_cons]
    split
    · exact ⟨fun z hz => h.1 z (List.mem_filter.1 hz).1, ids_filter f S h.2⟩
    · exact ids_filter f S h.2
theorem del_mem {id : Int} {S : List Dl} {d : Dl} : d ∈ del id S ↔ d ∈ S ∧ d.1 ≠ id := by simp [del, List.mem_filter]
theorem ids_ins (x : Dl) (S : List Dl) (h : Ids S) (hx : ∀ d ∈ S, d.1 ≠ x.1) : Ids (ins x S) := ids_perm (ins_perm x S).symm ⟨hx, h⟩
theorem has_iff {id : Int} {S : List Dl} : hasI id S = true ↔ ∃ d ∈ S, d.1 = id := by simp [hasI, List.any_eq_true]
theorem has_perm {id : Int} {S T : List Dl} (h : S.Perm T) : hasI id S = hasI id T := by
  rw [Bool.eq_iff_iff, has_iff, has_iff]
  constructor
  · rintro ⟨d, hd, e⟩; exact ⟨d, h.mem_iff.1 hd, e⟩
  · rintro ⟨d, hd, e⟩; exact ⟨d, h.mem_iff.2 hd, e⟩
theorem del_none {id : Int} {S : List Dl} (h : hasI id S = false) : del id S = S := by
  refine List.filter_eq_self.2 fun d hd => ?_
  have : ¬hasI id S = true := by rw [h]; simp
  rw [has_iff] at this
  simpa using fun e => this ⟨d, hd, e⟩
theorem del_perm {id : Int} {S T : List Dl} (h : S.Perm T) : (del id S).Perm (del id T) := h.filter _
theorem nt_parts {L : List Dl} {k : Nat} (hk : k < L.length) : L = L.take k ++ nt L k :: L.drop (k + 1) := by
  rw [nt_eq hk, ← List.drop_eq_getElem_cons hk, List.take_append_drop]
theorem ids_apart : ∀ {A B : List Dl} {d : Dl}, Ids (A ++ d :: B) → (∀ y ∈ A, y.1 ≠ d.1) ∧ ∀ y ∈ B, y.1 ≠ d.1
  | [], B, d, h => ⟨(fun y hy => by cases hy), h.1⟩
  | a :: A, B, d, h => by
    obtain ⟨h1, h2⟩ := ids_apart (A := A) h.2
    exact ⟨fun y hy => by rcases List.mem_cons.1 hy with rfl | hy; exact fun e => h.1 d (by simp) e.symm; exact h1 y hy, h2⟩
theorem del_parts {A B : List Dl} {d : Dl} (h : Ids (A ++ d :: B)) : del d.1 (A ++ d :: B) = A ++ B := by
  obtain ⟨h1, h2⟩ := ids_apart h
  unfold del
  rw [List.filter_append, List.filter_cons, List.filter_eq_self.2 (fun y hy => by simpa using h1 y hy), List.filter_eq_self.2 (fun y hy => by simpa using h2 y hy)]
  simp
/-- One of them told anew. -/
theorem set_perm {L : List Dl} {k : Nat} (hk : k < L.length) (h : Ids L) (x : Dl) : (L.set k x).Perm (x :: del (nt L k).1 L) := by
  have e := nt_parts hk
  have hi : Ids (L.take k ++ nt L k :: L.drop (k + 1)) := by rw [← e]; exact h
  have e1 : del (nt L k).1 L = L.take k ++ L.drop (k + 1) := by
    conv => lhs; rw [e]
    have hn : nt (L.take k ++ nt L k :: L.drop (k + 1)) k = nt L k := by rw [← e]
    rw [hn]
    exact del_parts hi
  rw [e1, List.set_eq_take_append_cons_drop, if_pos hk]
  exact List.perm_middle
/-- One of them taken out. -/
theorem out_perm {L L' : List Dl} {k : Nat} (hk : k < L.length) (h : Ids L) (hp : (L' ++ [nt L k]).Perm L) : L'.Perm (del (nt L k).1 L) := by
  have e := nt_parts hk
  have hi : Ids (L.take k ++ nt L k :: L.drop (k + 1)) := by rw [← e]; exact h
  have e1 : del (nt L k).1 L = L.take k ++ L.drop (k + 1) := by
    conv => lhs; rw [e]
    have hn : nt (L.take k ++ nt L k :: L.drop (k + 1)) k = nt L k := by rw [← e]
    rw [hn]
    exact del_parts hi
  rw [e1]
  have h2 : (L' ++ [nt L k]).Perm ((L.take k ++ L.drop (k + 1)) ++ [nt L k]) := by
    refine hp.trans ?_
    conv => lhs; rw [e]
    exact List.perm_middle.trans (List.perm_append_singleton _ _).symm
  exact (List.perm_append_right_iff _).1 h2
/-- What Set makes of a queue. -/
def okN (n : Int) : Bool := decide (0 ≤ n) && decide (n ≤ 1099511627776)
def setE (S : List Dl) (id at_ : Int) : Int := if okN id && okN at_ then (if !hasI id S && decide (256 ≤ S.length) then 6 else 0) else 1
def setS (S : List Dl) (id at_ : Int) : List Dl := if setE S id at_ = 0 then ins (id, at_) (del id S) else S
/-- Those that are due, and those that are left. -/
def dueL (S : List Dl) (now : Int) : List Dl := S.filter fun d => decide (d.2 ≤ now)
def leftL (S : List Dl) (now : Int) : List Dl := S.filter fun d => decide (now < d.2)
def atE (S : List Dl) (id : Int) : Int × Bool := match S.find? (fun d => decide (d.1 = id)) with | some d => (d.2, true) | none => (0, false)
def nextE (S : List Dl) : Int × Int × Bool := match S with | [] => (0, 0, false) | d :: _ => (d.1, d.2, true)
/-- A queue that may be. -/
structure Ok (S : List Dl) : Prop where
  srt : Srt S
  ids : Ids S
  len : S.length ≤ 256
theorem ok_del {S : List Dl} (h : Ok S) (id : Int) : Ok (del id S) := ⟨srt_filter _ _ h.srt, ids_filter _ _ h.ids, Nat.le_trans (List.length_filter_le _ _) h.len⟩
theorem del_not {id : Int} {S : List Dl} (x : Dl) (hx : x.1 = id) : x ∉ del id S := fun h => (del_mem.1 h).2 hx
theorem del_len {id : Int} {S : List Dl} (h : hasI id S = true) : (del id S).length < S.length := by
  obtain ⟨d, hd, e⟩ := has_iff.1 h
  have h1 : (del id S).length ≤ S.length := List.length_filter_le _ _
  rcases Nat.lt_or_ge (del id S).length S.length with h2 | h2
  · exact h2
  · have h3 : (S.filter fun d => decide (d.1 ≠ id)).length = S.length := Nat.le_antisymm h1 h2
    rw [List.length_filter_eq_length_iff] at h3
    have := h3 d hd
    simp [e] at this
theorem ok_set {S : List Dl} (h : Ok S) (id at_ : Int) : Ok (setS S id at_) := by
  unfold setS
  split
  · next he =>
    refine ⟨ins_srt _ _ (ok_del h id).srt (del_not _ rfl), ids_ins _ _ (ok_del h id).ids (fun d hd => (del_mem.1 hd).2), ?_⟩
    rw [ins_len]
    unfold setE at he
    split at he
    · split at he
      · omega
      · next hc =>
        cases hh : hasI id S
        · rw [hh] at hc
          have h1 : (del id S).length ≤ S.length := List.length_filter_le _ _
          simp at hc
          omega
        · have := del_len hh
          have := h.len
          omega
    · omega
  · exact h
theorem ok_left {S : List Dl} (h : Ok S) (now : Int) : Ok (leftL S now) := ⟨srt_filter _ _ h.srt, ids_filter _ _ h.ids, Nat.le_trans (List.length_filter_le _ _) h.len⟩
theorem ok_nil : Ok [] := ⟨trivial, trivial, by simp⟩
/-- In order by time. -/
theorem srt_times {x : Dl} {S : List Dl} (h : Srt (x :: S)) : ∀ y ∈ S, x.2 ≤ y.2 := fun y hy => by
  have := h.1 y hy
  unfold lt at this
  omega
theorem due_head {x : Dl} {S : List Dl} {now : Int} (hx : x.2 ≤ now) : dueL (x :: S) now = x :: dueL S now := by simp [dueL, hx]
theorem left_head {x : Dl} {S : List Dl} {now : Int} (hx : x.2 ≤ now) : leftL (x :: S) now = leftL S now := by
  have : ¬now < x.2 := by omega
  simp [leftL, this]
theorem due_none {x : Dl} {S : List Dl} {now : Int} (h : Srt (x :: S)) (hx : ¬x.2 ≤ now) : dueL (x :: S) now = [] ∧ leftL (x :: S) now = x :: S := by
  have ht := srt_times h
  constructor
  · refine List.filter_eq_nil_iff.2 fun d hd => ?_
    rcases List.mem_cons.1 hd with rfl | hd
    · simpa using hx
    · have := ht d hd
      simp
      omega
  · refine List.filter_eq_self.2 fun d hd => ?_
    rcases List.mem_cons.1 hd with rfl | hd
    · simp; omega
    · have := ht d hd
      simp
      omega
theorem find_perm {S T : List Dl} (h : S.Perm T) (hi : Ids S) (id : Int) : atE S id = atE T id := by
  have key : ∀ {S : List Dl} {d : Dl}, Ids S → d ∈ S → S.find? (fun y => decide (y.1 = d.1)) = some d := by
    intro S
    induction S with
    | nil => intro d _ h; cases h
    | cons a S ih =>
      intro d hi hd
      rw [List.find?_cons]
      rcases List.mem_cons.1 hd with rfl | hd
      · simp
      · have : ¬a.1 = d.1 := fun e => hi.1 d hd e.symm
        simp only [this, decide_false]
        exact ih hi.2 hd
  unfold atE
  cases e : S.find? (fun d => decide (d.1 = id)) with
  | none =>
    have : T.find? (fun d => decide (d.1 = id)) = none := by
      rw [List.find?_eq_none] at e ⊢
      exact fun d hd => e d (h.mem_iff.2 hd)
    rw [this]
  | some d =>
    have h1 := List.mem_of_find?_eq_some e
    have h2 := List.find?_some e
    simp at h2
    have := key (ids_perm h hi) (h.mem_iff.1 h1)
    rw [h2] at this
    rw [this]
end Go.Proofs.Ytinbaepligploaa
