/-
  Mathematics of lines, and of what a text is read as.
-/
import Derived.Lib.IndexMore
import Derived.Test.YtmlbinbhicdljaaDoorEM
namespace Go.Proofs.YtmlbinbhicdljaaDoor
open Go Go.RowKit

/-- up to the next D A, and behind it -/
def cutLine : List UInt8 → Option (List UInt8 × List UInt8)
  | [] => none
  | x :: r => if x = 13 ∧ r.head? = some 10 then some ([], r.tail) else (cutLine r).map fun p => (x :: p.1, p.2)
theorem cutLine_eq : ∀ (s : List UInt8) (p : List UInt8 × List UInt8), cutLine s = some p → s = p.1 ++ 13 :: 10 :: p.2
  | [], p, h => by simp [cutLine] at h
  | x :: r, p, h => by
    unfold cutLine at h
    by_cases hc : x = 13 ∧ r.head? = some 10
    · rw [if_pos hc] at h
      obtain rfl := Option.some.inj h
      obtain ⟨rfl, hh⟩ := hc
      cases r with
      | nil => simp at hh
      | cons y t => simp at hh; subst hh; rfl
    · rw [if_neg hc] at h
      obtain ⟨q, hq, rfl⟩ := Option.map_eq_some_iff.1 h
      have := cutLine_eq r q hq
      rw [this]; rfl
theorem cutLine_len {s : List UInt8} {p : List UInt8 × List UInt8} (h : cutLine s = some p) : s.length = p.1.length + 2 + p.2.length := by
  have e := cutLine_eq s p h
  rw [e]; simp only [List.length_append, List.length_cons]; omega
theorem pre2 (x : UInt8) (r : List UInt8) : ([13, 10] : List UInt8).isPrefixOf (x :: r) = decide (x = 13 ∧ r.head? = some 10) := by
  rw [Bool.eq_iff_iff, List.isPrefixOf_iff_prefix, decide_eq_true_iff]
  cases r with
  | nil => simp
  | cons y t =>
    constructor
    · intro h
      obtain ⟨u, hu⟩ := h
      simp at hu
      obtain ⟨rfl, rfl, _⟩ := hu
      exact ⟨rfl, rfl⟩
    · rintro ⟨rfl, h⟩
      simp at h; subst h
      exact ⟨t, rfl⟩
theorem index_line : ∀ s : List UInt8, Lib.index s [13, 10] = match cutLine s with
    | some p => (p.1.length : Int)
    | none => -1
  | [] => rfl
  | x :: r => by
    have ih := index_line r
    unfold Lib.index cutLine
    rw [pre2]
    by_cases hc : x = 13 ∧ r.head? = some 10
    · rw [if_pos (by simpa using hc), if_pos hc]; rfl
    · rw [if_neg (by simpa using hc), if_neg hc, ih]
      cases cutLine r with
      | none => rfl
      | some p =>
        have : ((p.1.length : Int) == -1) = false := by rw [beq_eq_false_iff_ne]; omega
        simp [this]
theorem cut_line (s : List UInt8) : Lib.cut s [13, 10] = match cutLine s with
    | some p => (p.1, p.2, true)
    | none => (s, [], false) := by
  unfold Lib.cut
  rw [index_line]
  cases h : cutLine s with
  | none => simp
  | some p =>
    have e := cutLine_eq s p h
    simp only [Int.toNat_natCast]
    rw [if_pos (by omega)]
    rw [e]
    simp
/-- up to a colon, and behind it -/
def cut58 : List UInt8 → Option (List UInt8 × List UInt8)
  | [] => none
  | x :: r => if x = 58 then some ([], r) else (cut58 r).map fun p => (x :: p.1, p.2)
theorem cut58_eq : ∀ (s : List UInt8) (p : List UInt8 × List UInt8), cut58 s = some p → s = p.1 ++ 58 :: p.2
  | [], p, h => by simp [cut58] at h
  | x :: r, p, h => by
    unfold cut58 at h
    by_cases hc : x = 58
    · rw [if_pos hc] at h
      obtain rfl := Option.some.inj h
      rw [hc]; rfl
    · rw [if_neg hc] at h
      obtain ⟨q, hq, rfl⟩ := Option.map_eq_some_iff.1 h
      have := cut58_eq r q hq
      rw [this]; rfl
theorem pre1 (x : UInt8) (r : List UInt8) : ([58] : List UInt8).isPrefixOf (x :: r) = decide (x = 58) := by
  rw [Bool.eq_iff_iff, List.isPrefixOf_iff_prefix, decide_eq_true_iff]
  constructor
  · intro h
    obtain ⟨u, hu⟩ := h
    simp at hu
    exact hu.1.symm
  · rintro rfl
    exact ⟨r, rfl⟩
theorem index_58 : ∀ s : List UInt8, Lib.index s [58] = match cut58 s with
    | some p => (p.1.length : Int)
    | none => -1
  | [] => rfl
  | x :: r => by
    have ih := index_58 r
    unfold Lib.index cut58
    rw [pre1]
    by_cases hc : x = 58
    · rw [if_pos (by simpa using hc), if_pos hc]; rfl
    · rw [if_neg (by simpa using hc), if_neg hc, ih]
      cases cut58 r with
      | none => rfl
      | some p =>
        have : ((p.1.length : Int) == -1) = false := by rw [beq_eq_false_iff_ne]; omega
        simp [this]
theorem cut_58 (s : List UInt8) : Lib.cut s [58] = match cut58 s with
    | some p => (p.1, p.2, true)
    | none => (s, [], false) := by
  unfold Lib.cut
  rw [index_58]
  cases h : cut58 s with
  | none => simp
  | some p =>
    have e := cut58_eq s p h
    simp only [Int.toNat_natCast]
    rw [if_pos (by omega)]
    rw [e]
    simp

/-- the field of a line -/
def fieldOf (p : List UInt8 × List UInt8) : Fd := (⟨p.1.toArray⟩, ⟨(trimB p.2).toArray⟩)
def readD (s : List UInt8) : Option Fd := match cut58 s with
  | none => none
  | some p => if rightD (fieldOf p) = true then some (fieldOf p) else none
/-- what is read from a place on -/
def goL (big : Bool) (at_ : Nat) (acc : List Fd) (s : List UInt8) : List Fd × Nat × Int :=
  match _h : cutLine s with
  | none => ([], 0, if big then 4 else 3)
  | some p =>
    if 65536 < at_ + p.1.length + 2 then ([], 0, 4)
    else if p.1 = [] then (acc, at_ + p.1.length + 2, 0)
    else if acc.length = 100 then ([], 0, 4)
    else match readD p.1 with
      | none => ([], 0, 2)
      | some f => goL big (at_ + p.1.length + 2) (acc ++ [f]) p.2
termination_by s.length
decreasing_by have := cutLine_len _h; omega
theorem goL_none {big : Bool} {a : Nat} {acc : List Fd} {s : List UInt8} (h : cutLine s = none) : goL big a acc s = ([], 0, if big then 4 else 3) := by
  rw [goL]
  split
  · rfl
  · rename_i p hp; rw [h] at hp; cases hp
theorem goL_some {big : Bool} {a : Nat} {acc : List Fd} {s : List UInt8} {p : List UInt8 × List UInt8} (h : cutLine s = some p) : goL big a acc s =
    if 65536 < a + p.1.length + 2 then ([], 0, 4)
    else if p.1 = [] then (acc, a + p.1.length + 2, 0)
    else if acc.length = 100 then ([], 0, 4)
    else match readD p.1 with
      | none => ([], 0, 2)
      | some f => goL big (a + p.1.length + 2) (acc ++ [f]) p.2 := by
  rw [goL]
  split
  · rename_i hp; rw [h] at hp; cases hp
  · rename_i q hq
    rw [h] at hq
    obtain rfl := Option.some.inj hq
    rfl
def parseD (s : List UInt8) : List Fd × Nat × Int := goL (decide (65536 < s.length)) 0 [] s
theorem goL_long {big : Bool} {a : Nat} {acc : List Fd} {s : List UInt8} {p : List UInt8 × List UInt8} (h : cutLine s = some p) (h1 : 65536 < a + p.1.length + 2) : goL big a acc s = ([], 0, 4) := by
  rw [goL_some h, if_pos h1]
theorem goL_end {big : Bool} {a : Nat} {acc : List Fd} {s : List UInt8} {p : List UInt8 × List UInt8} (h : cutLine s = some p) (h1 : ¬ 65536 < a + p.1.length + 2) (h2 : p.1 = []) : goL big a acc s = (acc, a + p.1.length + 2, 0) := by
  rw [goL_some h, if_neg h1, if_pos h2]
theorem goL_many {big : Bool} {a : Nat} {acc : List Fd} {s : List UInt8} {p : List UInt8 × List UInt8} (h : cutLine s = some p) (h1 : ¬ 65536 < a + p.1.length + 2) (h2 : p.1 ≠ []) (h3 : acc.length = 100) : goL big a acc s = ([], 0, 4) := by
  rw [goL_some h, if_neg h1, if_neg h2, if_pos h3]
theorem goL_bad {big : Bool} {a : Nat} {acc : List Fd} {s : List UInt8} {p : List UInt8 × List UInt8} (h : cutLine s = some p) (h1 : ¬ 65536 < a + p.1.length + 2) (h2 : p.1 ≠ []) (h3 : acc.length ≠ 100) (h4 : readD p.1 = none) : goL big a acc s = ([], 0, 2) := by
  rw [goL_some h, if_neg h1, if_neg h2, if_neg h3, h4]
theorem goL_go {big : Bool} {a : Nat} {acc : List Fd} {s : List UInt8} {p : List UInt8 × List UInt8} {f : Fd} (h : cutLine s = some p) (h1 : ¬ 65536 < a + p.1.length + 2) (h2 : p.1 ≠ []) (h3 : acc.length ≠ 100) (h4 : readD p.1 = some f) : goL big a acc s = goL big (a + p.1.length + 2) (acc ++ [f]) p.2 := by
  rw [goL_some h, if_neg h1, if_neg h2, if_neg h3, h4]
theorem ba_drop (s : ByteArray) (k : Nat) : (s.extract k s.size).data.toList = s.data.toList.drop k := by
  rw [ByteArray.data_extract]; show (s.data.extract k s.data.size).toList = _; simp; exact List.take_of_length_le (by rw [List.length_drop, ← Lib.size_eq]; omega)
theorem ba_take (s : ByteArray) (k : Nat) : (s.extract 0 k).data.toList = s.data.toList.take k := by
  rw [ByteArray.data_extract]; simp
theorem drop_line {S : List UInt8} {a : Nat} {p : List UInt8 × List UInt8} (h : cutLine (S.drop a) = some p) : S.drop (a + p.1.length + 2) = p.2 ∧ a + p.1.length + 2 ≤ S.length := by
  have e := cutLine_eq _ _ h
  have hl := congrArg List.length e
  simp only [List.length_drop, List.length_append, List.length_cons] at hl
  refine ⟨?_, by omega⟩
  rw [show a + p.1.length + 2 = a + (p.1.length + 2) by omega, ← List.drop_drop, e]
  simp
end Go.Proofs.YtmlbinbhicdljaaDoor
