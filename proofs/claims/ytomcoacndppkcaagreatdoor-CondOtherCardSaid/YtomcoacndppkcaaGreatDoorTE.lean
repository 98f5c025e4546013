/-
  Two lists alike; a list that is too great.
-/
import Derived.Test.YtomcoacndppkcaaGreatDoorTD
import Derived.WalkSmall
namespace Go.Proofs.YtomcoacndppkcaaGreatDoor.T
open Go Go.RowKit
open Go.Sort (grow)

theorem below_drewN {B : Nat} {a w : World} (h : Below B a w) (n : Nat) : Below B a (w.drewN n) := h.trans ⟨rfl, rfl, rfl, Nat.le_refl _, fun _ _ => rfl⟩
theorem take_same_snoc {α : Type} {l m : List α} {k : Nat} (h1 : k < l.length) (h2 : k < m.length) (h : l.take k = m.take k) (hx : l[k] = m[k]) : l.take (k + 1) = m.take (k + 1) := by
  rw [List.take_succ_eq_append_getElem h1, List.take_succ_eq_append_getElem h2, h, hx]
theorem ne_at {α : Type} {l m : List α} {k : Nat} (h1 : k < l.length) (h2 : k < m.length) (hx : l[k] ≠ m[k]) : l ≠ m := by
  rintro rfl; exact hx rfl
theorem eqB_f {s t : ByteArray} (h : s ≠ t) : (s.toList == t.toList) = false := by
  cases e : s.toList == t.toList with
  | false => rfl
  | true => exact absurd (eqB_iff.1 e) h
/-- two lists are alike -/
noncomputable def sameT (l m : List Tg) : Bool := @decide (l = m) (Classical.propDecidable _)
theorem sameT_t {l m : List Tg} (h : l = m) : sameT l m = true := by unfold sameT; simp [h]
theorem sameT_f {l m : List Tg} (h : l ≠ m) : sameT l m = false := by unfold sameT; simp [h]

/-- how great -/
theorem gsum_append (l m : List Tg) : gsum (l ++ m) = gsum l + gsum m := by
  unfold gsum; rw [List.map_append, List.sum_append]
theorem gsum_one (x : Tg) : gsum [x] = 1 + x.1.size := by unfold gsum; simp
theorem gsum_take {l : List Tg} {k : Nat} (h : k < l.length) : gsum (l.take (k + 1)) = gsum (l.take k) + 1 + l[k].1.size := by
  rw [List.take_succ_eq_append_getElem h, gsum_append, gsum_one]; omega
theorem gsum_le {l : List Tg} (k : Nat) : gsum (l.take k) ≤ gsum l := by
  have h := gsum_append (l.take k) (l.drop k)
  rw [List.take_append_drop] at h
  omega
theorem gsum_len (l : List Tg) : l.length ≤ gsum l := by
  unfold gsum
  induction l with
  | nil => simp
  | cons x l ih => simp only [List.map_cons, List.sum_cons, List.length_cons]; omega
theorem gsum_at {l : List Tg} {x : Tg} (h : x ∈ l) : x.1.size ≤ gsum l := by
  unfold gsum
  induction l with
  | nil => cases h
  | cons y l ih =>
    simp only [List.map_cons, List.sum_cons]
    rcases List.mem_cons.1 h with rfl | h
    · omega
    · have := ih h; omega

end Go.Proofs.YtomcoacndppkcaaGreatDoor.T
