/-
  Mathematics of the reference's item.
-/
import Derived.Test.YtdmkfleiipfbgaaDoorFN
import Derived.Test.YtdmkfleiipfbgaaDoorPF
namespace Go.Proofs.YtdmkfleiipfbgaaDoor
open Go Go.RowKit

theorem numQ_bnd (l : List UInt8) : -1 ≤ numQ l ∧ numQ l ≤ 999999999999999999 := by
  unfold numQ pickI
  by_cases h : (numD l).2 = true
  · rw [if_pos h]; exact numD_bnd h
  · rw [if_neg h]; omega
/-- the reference's item behind the first dash -/
def dashQ (u v : List UInt8) : Sp × Bool :=
  if u = [] then ((-1, numQ v), decide (0 ≤ numQ v))
  else if v = [] then ((numQ u, -1), decide (0 ≤ numQ u))
  else ((numQ u, numQ v), decide (0 ≤ numQ u) && decide (numQ u ≤ numQ v))
def itemQ (l : List UInt8) : Sp × Bool := if (Lib.cut l [45]).2.2 = true then dashQ (Lib.cut l [45]).1 (Lib.cut l [45]).2.1 else ((0, 0), false)
theorem runD_nn : ∀ (l : List UInt8) (v : Int), 0 ≤ v → (runD v l).2 = true → 0 ≤ (runD v l).1
  | [], v, h, _ => by simpa [runD] using h
  | c :: r, v, h, h2 => by
    unfold runD at h2 ⊢
    by_cases hc : (c.toNat : Int) < 48 ∨ 57 < (c.toNat : Int)
    · rw [if_pos hc] at h2; cases h2
    · rw [if_neg hc] at h2 ⊢
      exact runD_nn r _ (by omega) h2
theorem numD_nn {l : List UInt8} (h : l ≠ []) (h2 : (numD l).2 = true) : 0 ≤ (numD l).1 := by
  unfold numD at h2 ⊢
  rw [if_neg h] at h2 ⊢
  by_cases hb : 18 < l.length
  · rw [if_pos hb] at h2; cases h2
  · rw [if_neg hb] at h2 ⊢
    exact runD_nn l 0 (by omega) h2
theorem numD_nil : numD [] = (-1, true) := rfl
theorem srB_ff {a b : Int} (h : ¬ (a ≤ 999999999999999999 ∧ b ≤ 999999999999999999 ∧ ((a = -1 ∧ 0 ≤ b) ∨ (0 ≤ a ∧ b = -1) ∨ (0 ≤ a ∧ a ≤ b)))) : srB a b = false := by
  cases hs : srB a b with
  | false => rfl
  | true => exact absurd (srB_iff.1 hs) h
theorem dash_range (u v : List UInt8) :
    (dashQ u v).2 = (((numD u).2 && (numD v).2) && srB (numD u).1 (numD v).1) ∧ ((dashQ u v).2 = true → (dashQ u v).1 = ((numD u).1, (numD v).1)) := by
  have bu := fun h => numD_bnd (l := u) h
  have bv := fun h => numD_bnd (l := v) h
  have nu := fun h h2 => numD_nn (l := u) h h2
  have nv := fun h h2 => numD_nn (l := v) h h2
  unfold dashQ numQ pickI
  by_cases hu : u = []
  · subst hu
    rw [if_pos rfl, numD_nil]
    by_cases hv : v = []
    · subst hv
      rw [numD_nil]
      exact ⟨rfl, fun h => by cases h⟩
    · cases hq : (numD v).2 with
      | false => exact ⟨by simp, by simp⟩
      | true =>
        have h1 := nv hv hq
        have h2 := bv hq
        rw [if_pos rfl]
        refine ⟨?_, fun _ => rfl⟩
        rw [srB_iff.2 ⟨by omega, h2.2, .inl ⟨rfl, h1⟩⟩]
        simpa using h1
  · rw [if_neg hu]
    by_cases hv : v = []
    · subst hv
      rw [if_pos rfl, numD_nil]
      cases hq : (numD u).2 with
      | false => exact ⟨by simp, by simp⟩
      | true =>
        have h1 := nu hu hq
        have h2 := bu hq
        rw [if_pos rfl]
        refine ⟨?_, fun _ => rfl⟩
        rw [srB_iff.2 ⟨h2.2, by omega, .inr (.inl ⟨h1, rfl⟩)⟩]
        simpa using h1
    · rw [if_neg hv]
      cases hq : (numD u).2 with
      | false => exact ⟨by simp, by simp⟩
      | true =>
        cases hr : (numD v).2 with
        | false =>
          have h1 := nu hu hq
          exact ⟨by simp; omega, by simp; omega⟩
        | true =>
          have h1 := nu hu hq
          have h2 := bu hq
          have h3 := nv hv hr
          have h4 := bv hr
          rw [if_pos rfl, if_pos rfl]
          refine ⟨?_, fun _ => rfl⟩
          by_cases hle : (numD u).1 ≤ (numD v).1
          · rw [srB_iff.2 ⟨h2.2, h4.2, .inr (.inr ⟨h1, hle⟩)⟩]
            simp [h1, hle]
          · rw [srB_ff (by omega)]
            simp [hle]
theorem item_range (l : List UInt8) : (itemQ l).2 = (rangeD l).2 ∧ ((rangeD l).2 = true → (itemQ l).1 = (rangeD l).1) := by
  unfold itemQ rangeD
  cases hf : (Lib.cut l [45]).2.2 with
  | false => exact ⟨by simp, by simp⟩
  | true =>
    obtain ⟨h1, h2⟩ := dash_range (Lib.cut l [45]).1 (Lib.cut l [45]).2.1
    rw [if_pos rfl]
    by_cases hc : (numD (Lib.cut l [45]).1).2 = true ∧ (numD (Lib.cut l [45]).2.1).2 = true ∧ srB (numD (Lib.cut l [45]).1).1 (numD (Lib.cut l [45]).2.1).1 = true
    · rw [if_pos ⟨rfl, hc⟩]
      have h3 : (dashQ (Lib.cut l [45]).1 (Lib.cut l [45]).2.1).2 = true := by rw [h1, hc.1, hc.2.1, hc.2.2]; rfl
      exact ⟨h3, fun _ => h2 h3⟩
    · rw [if_neg (fun h => hc h.2)]
      refine ⟨?_, fun h => by cases h⟩
      rw [h1]
      cases ha : (numD (Lib.cut l [45]).1).2 with
      | false => rfl
      | true =>
        cases hb : (numD (Lib.cut l [45]).2.1).2 with
        | false => rfl
        | true =>
          cases hs : srB (numD (Lib.cut l [45]).1).1 (numD (Lib.cut l [45]).2.1).1 with
          | false => rfl
          | true => exact absurd ⟨ha, hb, hs⟩ hc
end Go.Proofs.YtdmkfleiipfbgaaDoor
