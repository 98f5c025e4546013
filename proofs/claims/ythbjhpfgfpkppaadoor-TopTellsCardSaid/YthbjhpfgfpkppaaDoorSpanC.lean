/-
  The calls of layer 1 (span): Cut, Align, each by a contract.
-/
import Derived.Test.YthbjhpfgfpkppaaDoorSpanA
namespace Go.Proofs.YthbjhpfgfpkppaaDoor
open Go Go.RowKit

/-- the first part's beginning, where it is cut, the second part's end -/
def cutA (a b : Int) : Int := if rtB a b then a else 0
def cutM (a b p : Int) : Int := if rtB a b then (if p < a then a else if b < p then b else p) else 0
def cutZ (a b : Int) : Int := if rtB a b then b else 0

set_option maxHeartbeats 800000 in
theorem cut_any (a b p : Int) (w : World) :
    Calls Tryd.prog 25 #[.agg #[.int .i64 a, .int .i64 b], .int .i64 p] w fun e w' => e = .returned (.tuple #[.agg #[.int .i64 (cutA a b), .int .i64 (cutM a b p)], .agg #[.int .i64 (cutM a b p), .int .i64 (cutZ a b)]]) ∧ Below w.heap.size w w' := by
  cases hr : rtB a b with
  | false =>
    have HF : Hid (Ending.returned (.tuple #[.agg #[.int .i64 0, .int .i64 0], .agg #[.int .i64 0, .int .i64 0]]) = .returned (.tuple #[.agg #[.int .i64 (cutA a b), .int .i64 (cutM a b p)], .agg #[.int .i64 (cutM a b p), .int .i64 (cutZ a b)]])) := by
      unfold Hid; simp [cutA, cutM, cutZ, hr]
    go_enter Tryd.func25, Tryd.ntmps25
    go_wp2_with (go_at_call 36; with_reducible refine (right_any a b _).mono ?_; rintro e w1 ⟨rfl, hb1⟩; obtain ⟨hc1, hf1⟩ := bcell hb1; have hz1 := lt3 hb1; have B1 := bel (w := w) (by go_grown) hb1)
    refine bodyPost_ret (v := .tuple #[.agg #[.int .i64 0, .int .i64 0], .agg #[.int .i64 0, .int .i64 0]]) (by simp [results, Tryd.results25, go_sem, hc1]) rfl ⟨HF.out, by go_grown⟩
  | true =>
    have h0 := rtB_t hr
    by_cases h1 : p < a
    · have HF : Hid (Ending.returned (.tuple #[.agg #[.int .i64 a, .int .i64 a], .agg #[.int .i64 a, .int .i64 b]]) = .returned (.tuple #[.agg #[.int .i64 (cutA a b), .int .i64 (cutM a b p)], .agg #[.int .i64 (cutM a b p), .int .i64 (cutZ a b)]])) := by
        unfold Hid; have hm : cutM a b p = a := by simp [cutM, hr, h1]
        simp [cutA, hm, cutZ, hr]
      go_enter Tryd.func25, Tryd.ntmps25
      go_wp2_with (go_at_call 36; with_reducible refine (right_any a b _).mono ?_; rintro e w1 ⟨rfl, hb1⟩; obtain ⟨hc1, hf1⟩ := bcell hb1; have hz1 := lt3 hb1; have B1 := bel (w := w) (by go_grown) hb1)
      go_region
      all_goals
        go_wp2
        refine bodyPost_ret (v := .tuple #[.agg #[.int .i64 a, .int .i64 a], .agg #[.int .i64 a, .int .i64 b]]) (by simp [results, Tryd.results25, go_sem, hc1]) rfl ⟨HF.out, by go_grown⟩
    · by_cases h2 : b < p
      · have HF : Hid (Ending.returned (.tuple #[.agg #[.int .i64 a, .int .i64 b], .agg #[.int .i64 b, .int .i64 b]]) = .returned (.tuple #[.agg #[.int .i64 (cutA a b), .int .i64 (cutM a b p)], .agg #[.int .i64 (cutM a b p), .int .i64 (cutZ a b)]])) := by
          unfold Hid; have hm : cutM a b p = b := by simp [cutM, hr, h1, h2]
          simp [cutA, hm, cutZ, hr]
        go_enter Tryd.func25, Tryd.ntmps25
        go_wp2_with (go_at_call 36; with_reducible refine (right_any a b _).mono ?_; rintro e w1 ⟨rfl, hb1⟩; obtain ⟨hc1, hf1⟩ := bcell hb1; have hz1 := lt3 hb1; have B1 := bel (w := w) (by go_grown) hb1)
        go_region
        all_goals
          go_wp2
          refine bodyPost_ret (v := .tuple #[.agg #[.int .i64 a, .int .i64 b], .agg #[.int .i64 b, .int .i64 b]]) (by simp [results, Tryd.results25, go_sem, hc1]) rfl ⟨HF.out, by go_grown⟩
      · have HF : Hid (Ending.returned (.tuple #[.agg #[.int .i64 a, .int .i64 p], .agg #[.int .i64 p, .int .i64 b]]) = .returned (.tuple #[.agg #[.int .i64 (cutA a b), .int .i64 (cutM a b p)], .agg #[.int .i64 (cutM a b p), .int .i64 (cutZ a b)]])) := by
          unfold Hid; have hm : cutM a b p = p := by simp [cutM, hr, h1, h2]
          simp [cutA, hm, cutZ, hr]
        go_enter Tryd.func25, Tryd.ntmps25
        go_wp2_with (go_at_call 36; with_reducible refine (right_any a b _).mono ?_; rintro e w1 ⟨rfl, hb1⟩; obtain ⟨hc1, hf1⟩ := bcell hb1; have hz1 := lt3 hb1; have B1 := bel (w := w) (by go_grown) hb1)
        go_region
        all_goals
          go_wp2
          refine bodyPost_ret (v := .tuple #[.agg #[.int .i64 a, .int .i64 p], .agg #[.int .i64 p, .int .i64 b]]) (by simp [results, Tryd.results25, go_sem, hc1]) rfl ⟨HF.out, by go_grown⟩

def alB (a b u : Int) : Bool := rtB a b && decide (1 ≤ u) && decide (u ≤ 1099511627776)
def alF (a b u : Int) : Int := if alB a b u then a - a % u else 0
def alT (a b u : Int) : Int := if alB a b u then mnI ((b + u - 1) / u * u) 4611686018427387904 else 0
def alE (a b u : Int) : Int := if alB a b u then 0 else 1
theorem al_facts {a b u : Int} (h0 : 0 ≤ a) (h1 : a ≤ b) (hb : b ≤ 4611686018427387904) (hu : 1 ≤ u) (hu' : u ≤ 1099511627776) :
    0 ≤ a % u ∧ a % u ≤ a ∧ 0 ≤ (b + u - 1) / u ∧ (b + u - 1) / u ≤ b + u - 1 ∧ 0 ≤ (b + u - 1) / u * u ∧ (b + u - 1) / u * u ≤ b + u - 1 := by
  refine ⟨Int.emod_nonneg _ (by omega), ?_, Int.ediv_nonneg (by omega) (by omega), Int.ediv_le_self _ (by omega), Int.mul_nonneg (Int.ediv_nonneg (by omega) (by omega)) (by omega), Int.ediv_mul_le _ (by omega)⟩
  have := Int.emod_add_mul_ediv a u
  have h : 0 ≤ u * (a / u) := Int.mul_nonneg (by omega) (Int.ediv_nonneg h0 (by omega))
  omega
end Go.Proofs.YthbjhpfgfpkppaaDoor
