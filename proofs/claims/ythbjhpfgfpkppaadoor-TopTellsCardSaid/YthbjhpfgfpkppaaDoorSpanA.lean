/-
  The calls of layer 1 (span), each by a contract: what it hands back, for every argument; no memory that was there is turned.
-/
import Derived.Test.YthbjhpfgfpkppaaDoorProg
import Derived.WalkKit
import Derived.BigQuiet
import Derived.Deep.QuietTactic
import Derived.RegionTactic
import Derived.ChangeAlike
import Derived.Outline
import Derived.Handy
namespace Go.Proofs.YthbjhpfgfpkppaaDoor
open Go Go.RowKit

/-- no end -/
def rtB (a b : Int) : Bool := decide (0 ≤ a) && decide (a ≤ b) && decide (b ≤ 4611686018427387904)
theorem rtB_t {a b : Int} (h : rtB a b = true) : 0 ≤ a ∧ a ≤ b ∧ b ≤ 4611686018427387904 := by
  simp [rtB] at h; omega
theorem rtB_mk {a b : Int} (h : 0 ≤ a ∧ a ≤ b ∧ b ≤ 4611686018427387904) : rtB a b = true := by
  simp [rtB]; omega
theorem rtB_f {a b : Int} (h : rtB a b = false) : ¬ (0 ≤ a ∧ a ≤ b ∧ b ≤ 4611686018427387904) := by
  intro h'; rw [rtB_mk h'] at h; cases h
theorem rtB_no {a b : Int} (h : ¬ (0 ≤ a ∧ a ≤ b ∧ b ≤ 4611686018427387904)) : rtB a b = false := by
  cases e : rtB a b with
  | false => rfl
  | true => exact absurd (rtB_t e) h

theorem ret_bool {a b : Bool} (h : a = b) : Ending.returned (.bool a) = .returned (.bool b) := by rw [h]
theorem ret_int {k : IntKind} {a b : Int} (h : a = b) : Ending.returned (.int k a) = .returned (.int k b) := by rw [h]

theorem bel {w W w1 : World} (h1 : Below w.heap.size w W) (h2 : Below W.heap.size W w1) : Below w.heap.size w w1 := h1.trans (h2.mono h1.size)
theorem bcell {W w1 : World} (hb : Below W.heap.size W w1) : (∀ b o, b < W.heap.size → w1.cell? ⟨b, o, none⟩ = W.cell? ⟨b, o, none⟩) ∧ (∀ b o, b < W.heap.size → w1.frozen? ⟨b, o, none⟩ = W.frozen? ⟨b, o, none⟩) :=
  ⟨fun b o h => hb.cell (p := ⟨b, o, none⟩) h, fun b o h => hb.frozen (p := ⟨b, o, none⟩) h⟩

theorem lt1 {w w1 : World} {o : Obj} (h : Below (w.alloc o).heap.size (w.alloc o) w1) : w.heap.size < w1.heap.size := by
  have := h.size; simp only [World.size_alloc] at this; omega
theorem lt2 {w w1 : World} {o p : Obj} (h : Below ((w.alloc o).alloc p).heap.size ((w.alloc o).alloc p) w1) : w.heap.size < w1.heap.size ∧ w.heap.size + 1 < w1.heap.size := by
  have := h.size; simp only [World.size_alloc] at this; omega
theorem lt3 {w w1 : World} {o p q : Obj} (h : Below (((w.alloc o).alloc p).alloc q).heap.size (((w.alloc o).alloc p).alloc q) w1) : w.heap.size < w1.heap.size ∧ w.heap.size + 1 < w1.heap.size ∧ w.heap.size + 1 + 1 < w1.heap.size := by
  have := h.size; simp only [World.size_alloc] at this; omega

def mxI (a c : Int) : Int := max a c
def mnI (a c : Int) : Int := min a c
theorem mxI_comm (a c : Int) : mxI a c = mxI c a := by unfold mxI; omega
theorem mnI_comm (a c : Int) : mnI a c = mnI c a := by unfold mnI; omega

/-- it has no end -/
def opB (a b : Int) : Bool := decide (b = 4611686018427387904) && !decide (a = 4611686018427387904)

/-- how many bytes -/
def lenI (a b : Int) : Int := if rtB a b then (if opB a b then 4611686018427387904 else b - a) else 0

set_option maxHeartbeats 400000 in
theorem right_any (a b : Int) (w : World) :
    Calls Tryd.prog 36 #[.agg #[.int .i64 a, .int .i64 b]] w fun e w' => e = .returned (.bool (rtB a b)) ∧ Below w.heap.size w w' := by
  by_cases h0 : 0 ≤ a
  · by_cases h1 : a ≤ b
    · by_cases h2 : b ≤ 4611686018427387904
      · go_enter Tryd.func36, Tryd.ntmps36
        go_wp2
        go_ret
        exact ⟨ret_bool (rtB_mk ⟨h0, h1, h2⟩).symm, (Below.refl _ _).alloc (Nat.le_refl _) _⟩
      · go_enter Tryd.func36, Tryd.ntmps36
        go_wp2
        go_ret
        exact ⟨ret_bool (rtB_no (by omega)).symm, (Below.refl _ _).alloc (Nat.le_refl _) _⟩
    · go_enter Tryd.func36, Tryd.ntmps36
      go_wp2
      go_ret
      exact ⟨ret_bool (rtB_no (by omega)).symm, (Below.refl _ _).alloc (Nat.le_refl _) _⟩
  · go_enter Tryd.func36, Tryd.ntmps36
    go_wp2
    go_ret
    exact ⟨ret_bool (rtB_no (by omega)).symm, (Below.refl _ _).alloc (Nat.le_refl _) _⟩

set_option maxHeartbeats 400000 in
theorem isOpen_any (a b : Int) (w : World) :
    Calls Tryd.prog 37 #[.agg #[.int .i64 a, .int .i64 b]] w fun e w' => e = .returned (.bool (opB a b)) ∧ Below w.heap.size w w' := by
  by_cases h0 : b = 4611686018427387904
  · subst h0
    by_cases h1 : a = 4611686018427387904
    · subst h1
      go_enter Tryd.func37, Tryd.ntmps37
      go_wp2
      go_ret
      exact ⟨ret_bool (by simp [opB]), (Below.refl _ _).alloc (Nat.le_refl _) _⟩
    · have hb : (a == 4611686018427387904) = false := by simpa using h1
      have hb' : (a != 4611686018427387904) = true := by simpa using h1
      go_enter Tryd.func37, Tryd.ntmps37
      go_wp2
      go_ret
      exact ⟨ret_bool (by simp [opB, h1]), (Below.refl _ _).alloc (Nat.le_refl _) _⟩
  · have hb : (b == 4611686018427387904) = false := by simpa using h0
    go_enter Tryd.func37, Tryd.ntmps37
    go_wp2
    go_ret
    exact ⟨ret_bool (by simp [opB, h0]), (Below.refl _ _).alloc (Nat.le_refl _) _⟩

set_option maxHeartbeats 400000 in
theorem len_any (a b : Int) (w : World) :
    Calls Tryd.prog 17 #[.agg #[.int .i64 a, .int .i64 b]] w fun e w' => e = .returned (.int .i64 (lenI a b)) ∧ Below w.heap.size w w' := by
  cases hr : rtB a b with
  | false =>
    go_enter Tryd.func17, Tryd.ntmps17
    go_wp2_with (go_at_call 36; refine (right_any _ _ _).mono ?_; rintro e w1 ⟨rfl, hb1⟩)
    go_ret
    exact ⟨ret_int (by simp [lenI, hr]), bel (by go_grown) hb1⟩
  | true =>
    have h0 := rtB_t hr
    cases ho : opB a b with
    | false =>
      go_enter Tryd.func17, Tryd.ntmps17
      go_wp2_with (first
        | (go_at_call 36; refine (right_any _ _ _).mono ?_; rintro e w1 ⟨rfl, hb1⟩; obtain ⟨hc1, hf1⟩ := bcell hb1; have hz1 := lt1 hb1)
        | (go_at_call 37; refine (isOpen_any _ _ _).mono ?_; rintro e w2 ⟨rfl, hb2⟩; obtain ⟨hc2, hf2⟩ := bcell hb2))
      go_ret
      exact ⟨ret_int (by simp [lenI, hr, ho]), bel (bel (by go_grown) hb1) hb2⟩
    | true =>
      go_enter Tryd.func17, Tryd.ntmps17
      go_wp2_with (first
        | (go_at_call 36; refine (right_any _ _ _).mono ?_; rintro e w1 ⟨rfl, hb1⟩; obtain ⟨hc1, hf1⟩ := bcell hb1; have hz1 := lt1 hb1)
        | (go_at_call 37; refine (isOpen_any _ _ _).mono ?_; rintro e w2 ⟨rfl, hb2⟩; obtain ⟨hc2, hf2⟩ := bcell hb2))
      go_ret
      exact ⟨ret_int (by simp [lenI, hr, ho]), bel (bel (by go_grown) hb1) hb2⟩

/-- is a byte in it -/
def hasB (a b p : Int) : Bool := rtB a b && decide (a ≤ p) && decide (p < b)
end Go.Proofs.YthbjhpfgfpkppaaDoor
