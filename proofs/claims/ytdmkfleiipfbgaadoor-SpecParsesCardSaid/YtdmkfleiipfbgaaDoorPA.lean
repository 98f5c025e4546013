/-
  Layer 4 (spec): which ranges are right, what of them is there: the plain functions, and the calls of the program and of the reference.
-/
import Derived.Test.YtdmkfleiipfbgaaDoorRF
namespace Go.Proofs.YtdmkfleiipfbgaaDoor
open Go Go.RowKit

/-- a range is right -/
def srB (a b : Int) : Bool := decide (a ≤ 999999999999999999) && decide (b ≤ 999999999999999999) && (if a = -1 then decide (0 ≤ b) else if b = -1 then decide (0 ≤ a) else decide (0 ≤ a) && decide (a ≤ b))
theorem srB_iff {a b : Int} : srB a b = true ↔ a ≤ 999999999999999999 ∧ b ≤ 999999999999999999 ∧ ((a = -1 ∧ 0 ≤ b) ∨ (0 ≤ a ∧ b = -1) ∨ (0 ≤ a ∧ a ≤ b)) := by
  unfold srB
  by_cases h1 : a = -1
  · subst h1; simp
  · by_cases h2 : b = -1
    · simp [h1, h2]; omega
    · simp [h1, h2]; omega

set_option maxHeartbeats 800000 in
theorem sright_any (a b : Int) (w : World) :
    Calls Tryd.prog 17 #[.agg #[.int .i64 a, .int .i64 b]] w fun e w' => e = .returned (.bool (srB a b)) ∧ Below w.heap.size w w' := by
  by_cases h1 : a > 999999999999999999
  · go_enter Tryd.func17, Tryd.ntmps17
    go_wp2
    go_ret
    exact ⟨ret_bool (by unfold srB; rw [decide_eq_false (by omega)]; rfl), (Below.refl _ _).alloc (Nat.le_refl _) _⟩
  · by_cases h2 : b > 999999999999999999
    · go_enter Tryd.func17, Tryd.ntmps17
      go_wp2
      go_ret
      exact ⟨ret_bool (by unfold srB; rw [decide_eq_false (p := b ≤ _) (by omega)]; simp), (Below.refl _ _).alloc (Nat.le_refl _) _⟩
    · by_cases h3 : a = -1
      · subst h3
        by_cases h4 : 0 ≤ b
        · go_enter Tryd.func17, Tryd.ntmps17
          go_wp2
          go_ret
          exact ⟨ret_bool (srB_iff.2 (by omega)).symm, (Below.refl _ _).alloc (Nat.le_refl _) _⟩
        · go_enter Tryd.func17, Tryd.ntmps17
          go_wp2
          go_ret
          exact ⟨ret_bool (by unfold srB; simp; omega), (Below.refl _ _).alloc (Nat.le_refl _) _⟩
      · have hb3 : (a == -1) = false := by simpa using h3
        by_cases h4 : b = -1
        · subst h4
          by_cases h5 : 0 ≤ a
          · go_enter Tryd.func17, Tryd.ntmps17
            go_wp2
            go_ret
            exact ⟨ret_bool (srB_iff.2 (by omega)).symm, (Below.refl _ _).alloc (Nat.le_refl _) _⟩
          · go_enter Tryd.func17, Tryd.ntmps17
            go_wp2
            go_ret
            exact ⟨ret_bool (by unfold srB; simp [h3]; omega), (Below.refl _ _).alloc (Nat.le_refl _) _⟩
        · have hb4 : (b == -1) = false := by simpa using h4
          by_cases h5 : 0 ≤ a
          · by_cases h6 : a ≤ b
            · go_enter Tryd.func17, Tryd.ntmps17
              go_wp2
              go_ret
              exact ⟨ret_bool (srB_iff.2 (by omega)).symm, (Below.refl _ _).alloc (Nat.le_refl _) _⟩
            · go_enter Tryd.func17, Tryd.ntmps17
              go_wp2
              go_ret
              exact ⟨ret_bool (by unfold srB; simp [h3, h4]; omega), (Below.refl _ _).alloc (Nat.le_refl _) _⟩
          · go_enter Tryd.func17, Tryd.ntmps17
            go_wp2
            go_ret
            exact ⟨ret_bool (by unfold srB; simp [h3, h4]; omega), (Below.refl _ _).alloc (Nat.le_refl _) _⟩

set_option maxHeartbeats 800000 in
theorem rsright_any (a b : Int) (w : World) :
    Calls Tryd.prog 18 #[.agg #[.int .i64 a, .int .i64 b]] w fun e w' => e = .returned (.bool (srB a b)) ∧ Below w.heap.size w w' := by
  by_cases h1 : a > 999999999999999999
  · go_enter Tryd.func18, Tryd.ntmps18
    go_wp2
    go_ret
    exact ⟨ret_bool (by unfold srB; rw [decide_eq_false (by omega)]; rfl), (Below.refl _ _).alloc (Nat.le_refl _) _⟩
  · by_cases h2 : b > 999999999999999999
    · go_enter Tryd.func18, Tryd.ntmps18
      go_wp2
      go_ret
      exact ⟨ret_bool (by unfold srB; rw [decide_eq_false (p := b ≤ _) (by omega)]; simp), (Below.refl _ _).alloc (Nat.le_refl _) _⟩
    · by_cases h3 : a = -1
      · subst h3
        by_cases h4 : 0 ≤ b
        · go_enter Tryd.func18, Tryd.ntmps18
          go_wp2
          go_ret
          exact ⟨ret_bool (srB_iff.2 (by omega)).symm, (Below.refl _ _).alloc (Nat.le_refl _) _⟩
        · go_enter Tryd.func18, Tryd.ntmps18
          go_wp2
          go_ret
          exact ⟨ret_bool (by unfold srB; simp; omega), (Below.refl _ _).alloc (Nat.le_refl _) _⟩
      · have hb3 : (a == -1) = false := by simpa using h3
        by_cases h5 : 0 ≤ a
        · by_cases h4 : b = -1
          · subst h4
            go_enter Tryd.func18, Tryd.ntmps18
            go_wp2
            go_ret
            exact ⟨ret_bool (srB_iff.2 (by omega)).symm, (Below.refl _ _).alloc (Nat.le_refl _) _⟩
          · have hb4 : (b == -1) = false := by simpa using h4
            by_cases h6 : a ≤ b
            · go_enter Tryd.func18, Tryd.ntmps18
              go_wp2
              go_ret
              exact ⟨ret_bool (srB_iff.2 (by omega)).symm, (Below.refl _ _).alloc (Nat.le_refl _) _⟩
            · go_enter Tryd.func18, Tryd.ntmps18
              go_wp2
              go_ret
              exact ⟨ret_bool (by unfold srB; simp [h3, h4]; omega), (Below.refl _ _).alloc (Nat.le_refl _) _⟩
        · have hF : srB a b = false := by
            cases e : srB a b with
            | false => rfl
            | true => have := srB_iff.1 e; omega
          have HF := Lib.hid hF
          clear hF
          go_enter Tryd.func18, Tryd.ntmps18
          go_wp2
          go_ret
          exact ⟨ret_bool HF.out.symm, (Below.refl _ _).alloc (Nat.le_refl _) _⟩

/-- what of a range is there, of so many bytes -/
def askA (a b t : Int) : Int := if a = -1 then mxI (t - b) 0 else a
def askZ (a b t : Int) : Int := if a = -1 then t else if b = -1 then t else mnI (b + 1) t
/-- a range that is right, or may be read so -/
def SR (a b : Int) : Prop := -1 ≤ a ∧ a ≤ 999999999999999999 ∧ -1 ≤ b ∧ b ≤ 999999999999999999
theorem SR.of {a b : Int} (h : srB a b = true) : SR a b := by have := srB_iff.1 h; unfold SR; omega

set_option maxHeartbeats 800000 in
theorem asked_any (a b t : Int) (w : World) (hr : SR a b) (h0 : 0 ≤ t) (h1 : t ≤ 4611686018427387904) :
    Calls Tryd.prog 47 #[.agg #[.int .i64 a, .int .i64 b], .int .i64 t] w fun e w' => e = .returned (.agg #[.int .i64 (askA a b t), .int .i64 (askZ a b t)]) ∧ Below w.heap.size w w' := by
  unfold SR at hr
  by_cases h3 : a = -1
  · subst h3
    have HF : Hid (askA (-1) b t = mxI (t - b) 0 ∧ askZ (-1) b t = t) := by unfold Hid; simp [askA, askZ]
    rw [HF.out.1, HF.out.2]
    clear HF
    by_cases h4 : t - b < 0
    · go_enter Tryd.func47, Tryd.ntmps47
      go_wp2
      refine bodyPost_ret (v := .agg #[.int .i64 (mxI (t - b) 0), .int .i64 t]) (by simp [results, Tryd.results47, go_sem, mxI]; omega) rfl ⟨rfl, ?_⟩
      go_grown
    · go_enter Tryd.func47, Tryd.ntmps47
      go_wp2
      refine bodyPost_ret (v := .agg #[.int .i64 (mxI (t - b) 0), .int .i64 t]) (by simp [results, Tryd.results47, go_sem, mxI]; omega) rfl ⟨rfl, ?_⟩
      go_grown
  · have hb3 : (a == -1) = false := by simpa using h3
    by_cases h4 : b = -1
    · subst h4
      have HF : Hid (askA a (-1) t = a ∧ askZ a (-1) t = t) := by unfold Hid; simp [askA, askZ, h3]
      rw [HF.out.1, HF.out.2]
      clear HF
      go_enter Tryd.func47, Tryd.ntmps47
      go_wp2
      refine bodyPost_ret (v := .agg #[.int .i64 a, .int .i64 t]) (by simp [results, Tryd.results47, go_sem]) rfl ⟨rfl, ?_⟩
      go_grown
    · have hb4 : (b == -1) = false := by simpa using h4
      have HF : Hid (askA a b t = a ∧ askZ a b t = mnI (b + 1) t) := by unfold Hid; simp [askA, askZ, h3, h4]
      rw [HF.out.1, HF.out.2]
      clear HF
      by_cases h5 : t < b + 1
      · go_enter Tryd.func47, Tryd.ntmps47
        go_wp2
        refine bodyPost_ret (v := .agg #[.int .i64 a, .int .i64 (mnI (b + 1) t)]) (by simp [results, Tryd.results47, go_sem, mnI]; omega) rfl ⟨rfl, ?_⟩
        go_grown
      · go_enter Tryd.func47, Tryd.ntmps47
        go_wp2
        refine bodyPost_ret (v := .agg #[.int .i64 a, .int .i64 (mnI (b + 1) t)]) (by simp [results, Tryd.results47, go_sem, mnI]; omega) rfl ⟨rfl, ?_⟩
        go_grown

set_option maxHeartbeats 400000 in
theorem least_any (a b : Int) (w : World) :
    Calls Tryd.prog 49 #[.int .i64 a, .int .i64 b] w fun e w' => e = .returned (.int .i64 (mnI a b)) ∧ Below w.heap.size w w' := by
  by_cases h : a < b
  · go_enter Tryd.func49, Tryd.ntmps49
    go_wp2
    go_ret
    exact ⟨ret_int (by unfold mnI; omega), Below.refl _ _⟩
  · go_enter Tryd.func49, Tryd.ntmps49
    go_wp2
    go_ret
    exact ⟨ret_int (by unfold mnI; omega), Below.refl _ _⟩
end Go.Proofs.YtdmkfleiipfbgaaDoor
