/- ends, rangeText, lastOf. -/
import Derived.Test.YthmlibapjhmdbaaDoorW14
namespace Go.Proofs.YthmlibapjhmdbaaDoor
open Go.RowKit Go.Shelf

/-- The two parts of a text at a sign, and whether the sign is there. -/
def cutA (s sep : ByteArray) : ByteArray := ⟨(Lib.cut s.data.toList sep.data.toList).1.toArray⟩
def cutB (s sep : ByteArray) : ByteArray := ⟨(Lib.cut s.data.toList sep.data.toList).2.1.toArray⟩
def cutT (s sep : ByteArray) : Bool := (Lib.cut s.data.toList sep.data.toList).2.2
theorem size_mk (l : List UInt8) : (⟨l.toArray⟩ : ByteArray).size = l.length := by show l.toArray.size = _; simp
theorem cutA_size (s sep : ByteArray) : (cutA s sep).size ≤ s.size := by
  unfold cutA
  rw [size_mk]
  have e : s.size = s.data.toList.length := by show s.data.size = _; simp
  unfold Lib.cut
  split
  · rw [List.length_take, e]; exact Nat.min_le_right _ _
  · rw [e]; exact Nat.le_refl _
theorem cutB_size (s sep : ByteArray) : (cutB s sep).size ≤ s.size := by
  unfold cutB
  rw [size_mk]
  have e : s.size = s.data.toList.length := by show s.data.size = _; simp
  unfold Lib.cut
  split
  · rw [List.length_drop, e]; exact Nat.sub_le _ _
  · exact Nat.zero_le _
theorem cut_any (s sep : ByteArray) (w : World) (G : Glob w) (hs : s.size ≤ 2048) :
    Calls Tryd.prog 41 #[.string s, .string sep] w fun e w' => e = .returned (.tuple #[.string (cutA s sep), .string (cutB s sep), .bool (cutT s sep)]) ∧ Below w.heap.size w w' := by
  obtain ⟨m, hm⟩ := G.mx
  refine (Tryd.strings_Cut s sep m w (by omega) hm).mono ?_
  rintro e w' ⟨rfl, n, rfl⟩
  exact ⟨rfl, below_drewN' (Below.refl _ _) n⟩

def dash : ByteArray := ⟨#[45]⟩
/-- What ends tells. -/
def endsOf (s : ByteArray) : Nat × Nat × Bool :=
  if cutT s dash = true then ((coreNum (cutA s dash)).getD 0, (coreNum (cutB s dash)).getD 0, (coreNum (cutA s dash)).isSome && (coreNum (cutB s dash)).isSome && decide ((coreNum (cutA s dash)).getD 0 < (coreNum (cutB s dash)).getD 0))
  else ((coreNum (cutA s dash)).getD 0, (coreNum (cutA s dash)).getD 0, (coreNum (cutA s dash)).isSome)

set_option maxRecDepth 100000 in
set_option maxHeartbeats 400000 in
theorem ends_any (s : ByteArray) (w : World) (G : Glob w) (hs : s.size ≤ 2048) :
    Calls Tryd.prog 42 #[.string s] w fun e w' => e = .returned (.tuple #[.int .i64 ((endsOf s).1 : Nat), .int .i64 ((endsOf s).2.1 : Nat), .bool (endsOf s).2.2]) ∧ Below w.heap.size w w' := by
  have sA := cutA_size s dash
  have sB := cutB_size s dash
  obtain ⟨T, hT⟩ : ∃ T, cutT s dash = T := ⟨_, rfl⟩
  obtain ⟨CA, hCA⟩ : ∃ CA, coreNum (cutA s dash) = CA := ⟨_, rfl⟩
  obtain ⟨CB, hCB⟩ : ∃ CB, coreNum (cutB s dash) = CB := ⟨_, rfl⟩
  have KC := Lib.hid (fun W G => cut_any s dash W G hs)
  have KA := Lib.hid (fun W G => coreOf_any (cutA s dash) W G (by omega))
  have KB := Lib.hid (fun W G => coreOf_any (cutB s dash) W G (by omega))
  have HE := Lib.hid (show endsOf s = if T = true then (CA.getD 0, CB.getD 0, CA.isSome && CB.isSome && decide (CA.getD 0 < CB.getD 0)) else (CA.getD 0, CA.getD 0, CA.isSome) by unfold endsOf; rw [hT, hCA, hCB])
  generalize endsOf s = E at *
  rw [hT] at KC
  rw [hCA] at KA
  rw [hCB] at KB
  generalize cutA s dash = A at *
  generalize cutB s dash = B at *
  clear hT hCA hCB sA sB
  go_enter Tryd.func42, Tryd.ntmps42
  go_wp2_with fail
  refine (KC.out _ G).mono ?_
  rintro e w1 ⟨rfl, hb1⟩
  have G1 := G.next hb1
  go_wp2_with fail
  refine (KA.out _ G1).mono ?_
  rintro e w2 ⟨rfl, hb2⟩
  have G2 := G1.next hb2
  have hb := bmore hb1 hb2
  clear hb1 hb2 G1
  cases T
  · go_wp2_with fail
    exact bodyPost_ret (results_tmp3 rfl _ _ _) rfl ⟨by rw [HE.out]; rfl, hb⟩
  · go_wp2_with fail
    refine (KB.out _ G2).mono ?_
    rintro e w3 ⟨rfl, hb3⟩
    replace hb := bmore hb hb3
    clear hb3 KA KB KC
    cases CA with
    | none =>
      simp only [Option.isSome_none, Option.getD_none]
      go_wp2_with fail
      exact bodyPost_ret (results_tmp3 rfl _ _ _) rfl ⟨by rw [HE.out]; rfl, hb⟩
    | some n =>
      cases CB with
      | none =>
        simp only [Option.isSome_none, Option.getD_none, Option.isSome_some, Option.getD_some]
        go_wp2_with fail
        exact bodyPost_ret (results_tmp3 rfl _ _ _) rfl ⟨by rw [HE.out]; rfl, hb⟩
      | some m =>
        simp only [Option.isSome_some, Option.getD_some]
        go_wp2_with fail
        exact bodyPost_ret (results_tmp3 rfl _ _ _) rfl ⟨by rw [HE.out]; simp, hb⟩

theorem dec_size_fin : ∀ n : Fin 256, (Lib.decDigits n.val).length ≤ 3 := by decide +kernel
theorem dec_size {n : Nat} (h : n < 256) : (dec n).size ≤ 3 := by unfold dec; rw [size_mk]; exact dec_size_fin ⟨n, h⟩
/-- A range's text. -/
def rangeT (a b : Nat) : ByteArray := if a = b then dec a else dec a ++ ⟨#[45]⟩ ++ dec b
set_option maxRecDepth 100000 in
set_option maxHeartbeats 400000 in
theorem range_any (a b : Nat) (w : World) (G : Glob w) (ha : a < 256) (hb0 : b < 256) :
    Calls Tryd.prog 44 #[.int .i64 a, .int .i64 b] w fun e w' => e = .returned (.string (rangeT a b)) ∧ Below w.heap.size w w' := by
  by_cases h : a = b
  · subst h
    have KA := Lib.hid (fun W G => itoa_any a W G ha)
    have HR := Lib.hid (show rangeT a a = dec a by simp [rangeT])
    go_enter Tryd.func44, Tryd.ntmps44
    go_wp2_with fail
    refine (KA.out _ G).mono ?_
    rintro e w1 ⟨rfl, hb1⟩
    go_wp2_with fail
    exact bodyPost_ret (results_tmp rfl _ _ _) rfl ⟨by rw [HR.out]; rfl, hb1⟩
  · have KA := Lib.hid (fun W G => itoa_any a W G ha)
    have KB := Lib.hid (fun W G => itoa_any b W G hb0)
    have HR := Lib.hid (show rangeT a b = dec a ++ ⟨#[45]⟩ ++ dec b by simp [rangeT, h])
    have e1 : (((a : Nat) : Int) == ((b : Nat) : Int)) = false := by simp; omega
    have e2 : (a == b) = false := by simpa using h
    have sa := dec_size ha
    have sb := dec_size hb0
    have s1 : (⟨#[45]⟩ : ByteArray).size = 1 := rfl
    have s2 : (dec a ++ (⟨#[45]⟩ : ByteArray)).size = (dec a).size + 1 := by rw [ByteArray.size_append]; rfl
    go_enter Tryd.func44, Tryd.ntmps44
    go_wp2_with fail
    refine (KA.out _ G).mono ?_
    rintro e w1 ⟨rfl, hb1⟩
    rw [show (⟨(Lib.decDigits a).toArray⟩ : ByteArray) = dec a from rfl]
    have G1 := G.next hb1
    go_wp2_with fail
    refine (KB.out _ G1).mono ?_
    rintro e w2 ⟨rfl, hb2⟩
    rw [show (⟨(Lib.decDigits b).toArray⟩ : ByteArray) = dec b from rfl]
    have hb := bmore hb1 hb2
    clear hb1 hb2
    go_wp2_with fail
    exact bodyPost_ret (results_tmp rfl _ _ _) rfl ⟨by rw [HR.out]; rfl, hb⟩
end Go.Proofs.YthmlibapjhmdbaaDoor
