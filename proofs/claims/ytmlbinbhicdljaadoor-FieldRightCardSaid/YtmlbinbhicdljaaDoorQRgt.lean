/-
  The walk of FieldRight.
-/
import Derived.Test.YtmlbinbhicdljaaDoorEP
import Derived.Test.YtmlbinbhicdljaaDoorET
namespace Go.Proofs.YtmlbinbhicdljaaDoor
open Go Go.RowKit

set_option maxHeartbeats 8000000 in
set_option maxRecDepth 100000 in
theorem walk_FieldRight (s t : ByteArray) (w : World) (hmx : MxAt w) (hs : s.size ≤ szM) (ht : t.size ≤ szM) :
    Calls Tryd.prog 6 #[.agg #[.string s, .string t]] w fun e w' => e = .returned (.bool true) ∧ Below w.heap.size w w' := by
  have hmx0 : MxAt (w.alloc (.cells #[.string s, .string t] 43)) := hmx.ext ((Below.refl _ _).alloc (Nat.le_refl _) _) (Nat.le_refl _)
  have hX := fun W => xgreat_any (some ⟨W.heap.size, 0, none⟩) 2 2 [s, t] (W.alloc (.cells #[.string s, .string t] 9)) rfl (by unfold maxLen; omega) (by intro x hx; simp at hx; rcases hx with rfl | rfl <;> assumption) (two_at W s t)
  cases hg2 : xgreatD [s, t] with
  | true =>
    rw [hg2] at hX
    go_enter Tryd.func6, Tryd.ntmps6
    go_wp2_with fail
    with_reducible refine (alive_any _ hmx0).mono ?_
    rintro e w1 ⟨rfl, hb1⟩
    obtain ⟨k0, k1, f0, f1, lz, E1⟩ := one_cells hb1
    go_wp2_with (go_at_call 13; with_reducible refine (hX _).mono ?_; rintro e w3 ⟨rfl, rfl⟩)
    go_ret
    exact ⟨rfl, E1.alloc E1.size _⟩
  | false =>
    rw [hg2] at hX
    have hA := fun W => right_any s t W hs ht
    have hB := fun W => rright_any s t W hs ht
    generalize rightD (s, t) = r at *
    have q1 : (r == r) = true := by simp
    go_enter Tryd.func6, Tryd.ntmps6
    go_wp2_with fail
    with_reducible refine (alive_any _ hmx0).mono ?_
    rintro e w1 ⟨rfl, hb1⟩
    obtain ⟨k0, k1, f0, f1, lz, E1⟩ := one_cells hb1
    have a2 : Ext w1 (w1.alloc (.cells #[.string s, .string t] 9)) := (Below.refl _ _).alloc (Nat.le_refl _) _
    have m0 : ∀ W, Ext (w1.alloc (.cells #[.string s, .string t] 9)) W → W.cell? ⟨w.heap.size, 0, none⟩ = some (.string s) := fun W h => by rw [(Ext.tr a2 h).cell (p := ⟨w.heap.size, 0, none⟩) lz]; exact k0
    have m1 : ∀ W, Ext (w1.alloc (.cells #[.string s, .string t] 9)) W → W.cell? ⟨w.heap.size, 1, none⟩ = some (.string t) := fun W h => by rw [(Ext.tr a2 h).cell (p := ⟨w.heap.size, 1, none⟩) lz]; exact k1
    go_wp2_with (go_at_call 13; with_reducible refine (hX _).mono ?_; rintro e w3 ⟨rfl, rfl⟩)
    refine' wp_region_made (rels := relsOf ((.val _) :: (.val _) :: (.val _) :: (.val _) :: (.val _) :: (.val _) :: [])) (w := (w1.alloc (.cells #[.string s, .string t] 9))) 16 (by kernel_rfl) (by kernel_rfl) (by rfl) (relsOf_stable ?sta) ?wka
    case sta => exact stable_val (stable_val (stable_val (stable_val (stable_val (stable_val (stable_nil))))))
    case wka =>
      refine' walk_val (by rfl) ?aa0 (fun K hK => ?ba0); (case aa0 => (intro W hW hd; clear hd; go_simp; first | exact ⟨Ext.rf _, rfl⟩ | rfl)); (go_simp; refine hK _ ?_; clear hK K)
      refine' walk_val (by rfl) ?aa1 (fun K hK => ?ba1); (case aa1 => (intro W hW hd; go_simp; (clear hd; exact makes_val (hA _)))); (go_simp; refine hK _ ?_; clear hK K)
      refine' walk_val (by rfl) ?aa2 (fun K hK => ?ba2); (case aa2 => (intro W hW hd; clear hd; go_simp; first | exact ⟨Ext.rf _, rfl⟩ | rfl)); (go_simp; refine hK _ ?_; clear hK K)
      refine' walk_val (by rfl) ?aa3 (fun K hK => ?ba3); (case aa3 => (intro W hW hd; go_simp; (clear hd; exact makes_val (hB _)))); (go_simp; refine hK _ ?_; clear hK K)
      refine' walk_val (by rfl) ?aa4 (fun K hK => ?ba4); (case aa4 => (intro W hW hd; clear hd; go_simp; first | exact ⟨Ext.rf _, rfl⟩ | rfl)); (go_simp; refine hK _ ?_; clear hK K)
      refine' walk_val (by rfl) ?aa5 (fun K hK => ?ba5); (case aa5 => (intro W hW hd; clear hd; go_simp; first | exact ⟨Ext.rf _, rfl⟩ | rfl)); (go_simp; refine hK _ ?_; clear hK K)
      refine walk_end (fun W hW hfin => ?_)
      have BF : Ext w W := Ext.tr (Ext.tr E1 a2) hW
      clear hfin
      go_wp2_with fail
      go_ret
      exact ⟨rfl, BF⟩
end Go.Proofs.YtmlbinbhicdljaaDoor
