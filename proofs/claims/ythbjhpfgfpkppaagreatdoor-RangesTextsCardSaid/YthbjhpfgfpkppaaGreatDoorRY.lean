/-
  RangesAt: its walk.
-/
import Derived.Test.YthbjhpfgfpkppaaGreatDoorRX
namespace Go.Proofs.YthbjhpfgfpkppaaGreatDoor
open Go Go.RowKit

theorem great1 (b n c : Nat) (A : Option Addr) (w : World) (hc : w.cell? ⟨b, 0, none⟩ = some (.slice A n c)) (hn : n ≤ maxLen) :
    Calls Tryz.prog 5 #[.slice (some ⟨b, 0, none⟩) 1 1] w fun e w' => e = .returned (.bool (decide (20 < n))) ∧ w = w' := by
  have h := great_any b 1 (fun _ => A) (fun _ => n) (fun _ => c) w (by omega) (fun j hj => by obtain rfl : j = 0 := (by omega); exact hc) (fun _ _ => hn)
  rwa [show greatB (fun _ => n) 1 = decide (20 < n) from by simp [greatB]] at h
theorem norm_has (l : List Sp) (p : Int) : anyHas (normL l) p = anyHas l p := by
  have h := (normL_norm l).2 p
  rw [← anyHas_iff, ← anyHas_iff] at h
  cases h1 : anyHas (normL l) p <;> cases h2 : anyHas l p <;> simp_all

end Go.Proofs.YthbjhpfgfpkppaaGreatDoor
