/-
  Plain facts for SpanBytes: which bytes what two spans both have, the joined one and the cut one's parts have.
-/
import Derived.Test.YtbhbnkblnfaomaaDoorSpanB
import Derived.Test.YtbhbnkblnfaomaaDoorSpanC
namespace Go.Proofs.YtbhbnkblnfaomaaDoor
open Go Go.RowKit

theorem hasB_iff {a b z : Int} : hasB a b z = true ↔ (rtB a b = true ∧ a ≤ z ∧ z < b) := by
  simp [hasB, and_assoc]
theorem bool_iff {x y : Bool} (h : x = true ↔ y = true) : x = y := by
  cases x <;> cases y <;> simp_all
theorem meet_has (a b c d z : Int) : (meetB a b c d && hasB (meetF a b c d) (meetT a b c d) z) = (hasB a b z && hasB c d z) := by
  apply bool_iff
  simp only [Bool.and_eq_true, hasB_iff]
  constructor
  · rintro ⟨hm, hr, h1, h2⟩
    unfold meetF at h1; unfold meetT at h2
    rw [if_pos hm] at h1 h2
    simp only [meetB, Bool.and_eq_true, decide_eq_true_eq] at hm
    unfold mxI at *; unfold mnI at *
    exact ⟨⟨hm.1.1, by omega, by omega⟩, hm.1.2, by omega, by omega⟩
  · rintro ⟨⟨r1, h1, h2⟩, r2, h3, h4⟩
    have p := rtB_t r1
    have q := rtB_t r2
    have hm : meetB a b c d = true := by simp only [meetB, r1, r2, Bool.true_and]; exact decide_eq_true (by unfold mxI mnI; omega)
    have e1 : meetF a b c d = mxI a c := by unfold meetF; rw [if_pos hm]
    have e2 : meetT a b c d = mnI b d := by unfold meetT; rw [if_pos hm]
    rw [e1, e2]
    exact ⟨hm, rtB_mk (by unfold mxI mnI; omega), by unfold mxI; omega, by unfold mnI; omega⟩
theorem join_has (a b c d z : Int) (ht : touchB a b c d = true) : hasB (joinF a b c d) (joinT a b c d) z = (hasB a b z || hasB c d z) := by
  have e1 : joinF a b c d = mnI a c := by unfold joinF; rw [if_pos ht]
  have e2 : joinT a b c d = mxI b d := by unfold joinT; rw [if_pos ht]
  rw [e1, e2]
  simp only [touchB, Bool.and_eq_true, decide_eq_true_eq] at ht
  obtain ⟨⟨r1, r2⟩, h⟩ := ht
  have p := rtB_t r1
  have q := rtB_t r2
  have r3 : rtB (mnI a c) (mxI b d) = true := rtB_mk (by unfold mxI mnI; omega)
  apply bool_iff
  rw [Bool.or_eq_true]
  simp only [hasB_iff, r1, r2, r3, true_and]
  unfold mxI mnI at *
  omega
theorem cut_has (a b p z : Int) : hasB (cutA a b) (cutM a b p) z = (hasB a b z && decide (z < p)) := by
  apply bool_iff
  rw [Bool.and_eq_true, decide_eq_true_eq]
  cases hr : rtB a b with
  | false => simp [hasB, cutA, cutM, hr]
  | true =>
    have q := rtB_t hr
    have e1 : cutA a b = a := by simp [cutA, hr]
    have e3 : a ≤ cutM a b p ∧ cutM a b p ≤ b ∧ (a ≤ p → p ≤ b → cutM a b p = p) ∧ (p < a → cutM a b p = a) ∧ (b < p → cutM a b p = b) := by
      clear e1; unfold cutM; rw [if_pos hr]; split
      · omega
      · split <;> omega
    rw [e1]
    generalize cutM a b p = m at e3
    have r : rtB a m = true := rtB_mk (by omega)
    simp only [hasB_iff, hr, r, true_and]
    omega
theorem cut_has2 (a b p z : Int) : hasB (cutM a b p) (cutZ a b) z = (hasB a b z && decide (p ≤ z)) := by
  apply bool_iff
  rw [Bool.and_eq_true, decide_eq_true_eq]
  cases hr : rtB a b with
  | false => simp [hasB, cutZ, cutM, hr]
  | true =>
    have q := rtB_t hr
    have e1 : cutZ a b = b := by simp [cutZ, hr]
    have e3 : a ≤ cutM a b p ∧ cutM a b p ≤ b ∧ (a ≤ p → p ≤ b → cutM a b p = p) ∧ (p < a → cutM a b p = a) ∧ (b < p → cutM a b p = b) := by
      clear e1; unfold cutM; rw [if_pos hr]; split
      · omega
      · split <;> omega
    rw [e1]
    generalize cutM a b p = m at e3
    have r : rtB m b = true := rtB_mk (by omega)
    simp only [hasB_iff, hr, r, true_and]
    omega
end Go.Proofs.YtbhbnkblnfaomaaDoor
