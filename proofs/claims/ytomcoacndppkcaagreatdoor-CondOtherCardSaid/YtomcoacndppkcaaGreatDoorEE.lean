/-
  Two lists alike; lists that are too great.
-/
import Derived.WalkSmall
import Derived.Test.YtomcoacndppkcaaGreatDoorED
namespace Go.Proofs.YtomcoacndppkcaaGreatDoor.F
open Go Go.RowKit
open Go.Sort (grow)

theorem take_same_snoc {α : Type} {l m : List α} {k : Nat} (h1 : k < l.length) (h2 : k < m.length) (h : l.take k = m.take k) (hx : l[k] = m[k]) : l.take (k + 1) = m.take (k + 1) := by
  rw [List.take_succ_eq_append_getElem h1, List.take_succ_eq_append_getElem h2, h, hx]
theorem ne_at {α : Type} {l m : List α} {k : Nat} (h1 : k < l.length) (h2 : k < m.length) (hx : l[k] ≠ m[k]) : l ≠ m := by
  rintro rfl; exact hx rfl
/-- two lists are alike -/
noncomputable def sameF (l m : List Fd) : Bool := @decide (l = m) (Classical.propDecidable _)
theorem sameF_t {l m : List Fd} (h : l = m) : sameF l m = true := by unfold sameF; simp [h]
theorem sameF_f {l m : List Fd} (h : l ≠ m) : sameF l m = false := by unfold sameF; simp [h]

/-- two lists are alike -/
noncomputable def sameX (l m : List ByteArray) : Bool := @decide (l = m) (Classical.propDecidable _)
theorem sameX_t {l m : List ByteArray} (h : l = m) : sameX l m = true := by unfold sameX; simp [h]
theorem sameX_f {l m : List ByteArray} (h : l ≠ m) : sameX l m = false := by unfold sameX; simp [h]

/-- how great -/
def gsum (l : List Fd) : Nat := (l.map fun t => t.1.size + t.2.size).sum
def greatD (l : List Fd) : Bool := decide (130 < l.length) || decide (12000 < gsum l)
theorem gsum_append (l m : List Fd) : gsum (l ++ m) = gsum l + gsum m := by
  unfold gsum; rw [List.map_append, List.sum_append]
theorem gsum_one (x : Fd) : gsum [x] = x.1.size + x.2.size := by unfold gsum; simp
theorem gsum_take {l : List Fd} {k : Nat} (h : k < l.length) : gsum (l.take (k + 1)) = gsum (l.take k) + l[k].1.size + l[k].2.size := by
  rw [List.take_succ_eq_append_getElem h, gsum_append, gsum_one]; omega
theorem gsum_at {l : List Fd} {x : Fd} (h : x ∈ l) : x.1.size + x.2.size ≤ gsum l := by
  unfold gsum
  induction l with
  | nil => cases h
  | cons y l ih =>
    simp only [List.map_cons, List.sum_cons]
    rcases List.mem_cons.1 h with rfl | h
    · omega
    · have := ih h; omega
theorem not_great {l : List Fd} (h : greatD l = false) : l.length ≤ 130 ∧ gsum l ≤ 12000 := by
  unfold greatD at h
  rw [Bool.or_eq_false_iff, decide_eq_false_iff_not, decide_eq_false_iff_not] at h
  omega
theorem Mx.of_small {l : List Fd} (h : gsum l ≤ 12000) : Mx l := fun x hx => by
  have := gsum_at hx; unfold szM; omega
def xsum (l : List ByteArray) : Nat := (l.map fun t => t.size).sum
def xgreatD (l : List ByteArray) : Bool := decide (10000 < xsum l) || decide (60 < l.length)
theorem xsum_append (l m : List ByteArray) : xsum (l ++ m) = xsum l + xsum m := by
  unfold xsum; rw [List.map_append, List.sum_append]
theorem xsum_one (x : ByteArray) : xsum [x] = x.size := by unfold xsum; simp
theorem xsum_take {l : List ByteArray} {k : Nat} (h : k < l.length) : xsum (l.take (k + 1)) = xsum (l.take k) + l[k].size := by
  rw [List.take_succ_eq_append_getElem h, xsum_append, xsum_one]
theorem xsum_at {l : List ByteArray} {x : ByteArray} (h : x ∈ l) : x.size ≤ xsum l := by
  unfold xsum
  induction l with
  | nil => cases h
  | cons y l ih =>
    simp only [List.map_cons, List.sum_cons]
    rcases List.mem_cons.1 h with rfl | h
    · omega
    · have := ih h; omega
theorem not_xgreat {l : List ByteArray} (h : xgreatD l = false) : l.length ≤ 60 ∧ xsum l ≤ 10000 := by
  unfold xgreatD at h
  rw [Bool.or_eq_false_iff, decide_eq_false_iff_not, decide_eq_false_iff_not] at h
  omega

end Go.Proofs.YtomcoacndppkcaaGreatDoor.F
