/-
  spec.Parse: the ranges of a value: which ones any text has whose unit is of ASCII letters.
-/
import Derived.Shelf.Strings.SlTrimAscii
import Derived.Test.YtdmkfleiipfbgaaDoorPE
import Derived.Test.YtdmkfleiipfbgaaDoorPR
namespace Go.Proofs.YtdmkfleiipfbgaaDoor
open Go Go.RowKit

theorem cut_nil (c : UInt8) : Lib.cut [] [c] = ([], [], false) := by
  simp [Lib.cut, Lib.index]
theorem cut_hd (c : UInt8) (r : List UInt8) : Lib.cut (c :: r) [c] = ([], r, true) := by
  simp [Lib.cut, Lib.index, List.isPrefixOf]
theorem index_ge (s t : List UInt8) : -1 ≤ Lib.index s t := by
  rcases Lib.index_spec s t with ⟨h, _⟩ | ⟨i, h, _⟩ <;> omega
theorem cut_tl {c x : UInt8} (h : x ≠ c) (r : List UInt8) : Lib.cut (x :: r) [c] = (x :: (Lib.cut r [c]).1, (Lib.cut r [c]).2.1, (Lib.cut r [c]).2.2) := by
  have hp : ([c] : List UInt8).isPrefixOf (x :: r) = false := by simp [List.isPrefixOf, Ne.symm h]
  have hge := index_ge r [c]
  by_cases h1 : 0 ≤ Lib.index r [c]
  · have e : Lib.index (x :: r) [c] = Lib.index r [c] + 1 := by
      rw [Lib.index, hp]
      have : (Lib.index r [c] == -1) = false := by rw [beq_eq_false_iff_ne]; omega
      simp [this]
    unfold Lib.cut
    rw [e, if_pos (by omega), if_pos h1]
    obtain ⟨n, hn⟩ : ∃ n : Nat, Lib.index r [c] = n := ⟨(Lib.index r [c]).toNat, by omega⟩
    rw [hn, show ((n : Int) + 1).toNat = n + 1 by omega, show (n : Int).toNat = n by omega]
    simp
  · have e1 : Lib.index r [c] = -1 := by omega
    have e : Lib.index (x :: r) [c] = -1 := by
      rw [Lib.index, hp, e1]; rfl
    unfold Lib.cut
    rw [e, e1]; rfl

/-- the pieces between commas -/
def pieces : List UInt8 → List (List UInt8)
  | [] => [[]]
  | x :: r => if x = 44 then [] :: pieces r else match pieces r with
    | [] => [[x]]
    | h :: t => (x :: h) :: t
theorem pieces_cut : ∀ s : List UInt8, pieces s = (Lib.cut s [44]).1 :: (if (Lib.cut s [44]).2.2 = true then pieces (Lib.cut s [44]).2.1 else [])
  | [] => by rw [cut_nil]; rfl
  | x :: r => by
    by_cases h : x = 44
    · subst h
      rw [cut_hd]; simp [pieces]
    · rw [cut_tl h]
      simp only [pieces, if_neg h]
      rw [pieces_cut r]
theorem cut_len {c : UInt8} : ∀ s : List UInt8, (Lib.cut s [c]).1.length ≤ s.length ∧ (Lib.cut s [c]).2.1.length ≤ s.length ∧ ((Lib.cut s [c]).2.2 = true → (Lib.cut s [c]).2.1.length < s.length)
  | [] => by rw [cut_nil]; simp
  | x :: r => by
    by_cases h : x = c
    · subst h; rw [cut_hd]; simp
    · rw [cut_tl h]
      have := cut_len (c := c) r
      simp only [List.length_cons]
      exact ⟨by omega, by omega, fun k => by have := this.2.2 k; omega⟩

/-- an item more -/
def stepP (p : List UInt8) (acc : List Sp) : Option (List Sp) :=
  if Lib.trimS p [32, 9] = [] then some acc
  else if (rangeD (Lib.trimS p [32, 9])).2 = true then some (if acc.length ≤ 64 then acc ++ [(rangeD (Lib.trimS p [32, 9])).1] else acc)
  else none
def goP : List (List UInt8) → List Sp → Option (List Sp)
  | [], acc => some acc
  | p :: ps, acc => (stepP p acc).bind (goP ps)
/-- what is left to read -/
def restP (more : Bool) (its : List UInt8) (acc : List Sp) : Option (List Sp) := if more = true then goP (pieces its) acc else some acc
theorem restP_step (its : List UInt8) (acc : List Sp) : restP true its acc = (stepP (Lib.cut its [44]).1 acc).bind fun a => restP (Lib.cut its [44]).2.2 (Lib.cut its [44]).2.1 a := by
  unfold restP
  rw [if_pos rfl, pieces_cut, goP]
  congr 1
  funext a
  split
  · rfl
  · rfl
theorem stepP_len {p : List UInt8} {acc a : List Sp} (h : acc.length ≤ 65) (e : stepP p acc = some a) : a.length ≤ 65 := by
  unfold stepP at e
  split at e
  · cases e; exact h
  · split at e
    · cases e
      split
      · simp; omega
      · exact h
    · cases e

/-- what a value is read as, and what is wrong with it -/
abbrev bytesL : List UInt8 := [98, 121, 116, 101, 115]
def endP : Option (List Sp) → List Sp × Int
  | none => ([], 2)
  | some l => if l.length = 0 then ([], 2) else if 64 < l.length then ([], 4) else (l, 0)
def parseD (s : List UInt8) : List Sp × Int :=
  if (Lib.cut s [61]).2.2 = true ∧ (Lib.cut s [61]).1.length = 5 ∧ Lib.equalFold (Lib.cut s [61]).1 bytesL = true then endP (restP true (Lib.cut s [61]).2.1 []) else ([], 2)

theorem trimx_any (s : ByteArray) (w : World) (hs : s.size ≤ 1000000) :
    Calls Tryd.prog 39 #[.string s, .string ⟨#[32, 9]⟩] w fun e w' => e = .returned (.string ⟨(Lib.trimS s.data.toList [32, 9]).toArray⟩) ∧ Below w.heap.size w w' :=
  Any.strings_Trim_laid Tryd.lays160 (by kernel_rfl) s ⟨#[32, 9]⟩ w (by omega) (by decide) (ascii_of_all (by decide))
end Go.Proofs.YtdmkfleiipfbgaaDoor
