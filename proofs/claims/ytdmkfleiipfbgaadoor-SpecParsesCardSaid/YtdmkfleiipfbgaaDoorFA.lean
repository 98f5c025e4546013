/-
  unicode.SimpleFold at the runes that a comparison with the word bytes comes to.
-/
import Derived.Test.YtdmkfleiipfbgaaDoorPG
namespace Go.Proofs.YtdmkfleiipfbgaaDoor
open Go Go.RowKit

/-- what is read of the library's tables of folds -/
structure FT (w : World) : Prop where
  f98 : w.cell? ⟨0, 98, none⟩ = some (.int .u16 66)
  f66 : w.cell? ⟨0, 66, none⟩ = some (.int .u16 98)
  f121 : w.cell? ⟨0, 121, none⟩ = some (.int .u16 89)
  f89 : w.cell? ⟨0, 89, none⟩ = some (.int .u16 121)
  f116 : w.cell? ⟨0, 116, none⟩ = some (.int .u16 84)
  f84 : w.cell? ⟨0, 84, none⟩ = some (.int .u16 116)
  f101 : w.cell? ⟨0, 101, none⟩ = some (.int .u16 69)
  f69 : w.cell? ⟨0, 69, none⟩ = some (.int .u16 101)
  f115 : w.cell? ⟨0, 115, none⟩ = some (.int .u16 383)
  f83 : w.cell? ⟨0, 83, none⟩ = some (.int .u16 115)
  orb : ∃ b o c, w.cell? ⟨1, 0, none⟩ = some (.slice (some ⟨b, o, none⟩) 94 c) ∧
    w.cell? ⟨b, o + 47 * 2, none⟩ = some (.int .u16 966) ∧ w.cell? ⟨b, o + 23 * 2, none⟩ = some (.int .u16 837) ∧ w.cell? ⟨b, o + 11 * 2, none⟩ = some (.int .u16 452) ∧
    w.cell? ⟨b, o + 5 * 2, none⟩ = some (.int .u16 197) ∧ w.cell? ⟨b, o + 8 * 2, none⟩ = some (.int .u16 304) ∧ w.cell? ⟨b, o + 10 * 2, none⟩ = some (.int .u16 383) ∧ w.cell? ⟨b, o + 9 * 2, none⟩ = some (.int .u16 305) ∧ w.cell? ⟨b, o + 10 * 2 + 1, none⟩ = some (.int .u16 83)

set_option maxHeartbeats 800000 in
set_option maxRecDepth 100000 in
theorem sfold_ascii (r : Nat) (z : Nat) (w : World) (hr : r < 128) (hz : z < 65536) (h : w.cell? ⟨0, r, none⟩ = some (.int .u16 z)) :
    Calls Tryd.prog 59 #[.int .i32 r] w fun e w' => e = .returned (.int .i32 z) ∧ w' = w := by
  go_enter Tryd.func59, Tryd.ntmps59
  go_wp2
  go_ret
  exact ⟨rfl, rfl⟩

set_option maxHeartbeats 4000000 in
theorem sfold_383 (w : World) (h : FT w) :
    Calls Tryd.prog 59 #[.int .i32 383] w fun e w' => e = .returned (.int .i32 83) ∧ Below w.heap.size w w' := by
  obtain ⟨b, o, c, k0, k1, k2, k3, k4, k5, k6, k7, k8⟩ := h.orb
  simp only [Nat.reduceMul] at k1 k2 k3 k4 k5 k6 k7 k8
  clear h
  go_enter Tryd.func59, Tryd.ntmps59
  go_wp2
  refine wp_loop_rounds 8 ?_
  rw [rounds_succ]
  go_wp2
  rw [rounds_succ]
  go_wp2
  rw [rounds_succ]
  go_wp2
  rw [rounds_succ]
  go_wp2
  rw [rounds_succ]
  go_wp2
  rw [rounds_succ]
  go_wp2
  rw [rounds_succ]
  go_wp2
  rw [rounds_succ]
  go_wp2
  go_ret
  exact ⟨rfl, Below.refl _ _⟩
end Go.Proofs.YtdmkfleiipfbgaaDoor
