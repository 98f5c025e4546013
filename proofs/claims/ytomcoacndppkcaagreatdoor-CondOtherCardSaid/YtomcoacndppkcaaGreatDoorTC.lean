/-
  Two tags are one, loosely and strictly, by the program and by the reference.
-/
import Derived.Test.YtomcoacndppkcaaGreatDoorTB
namespace Go.Proofs.YtomcoacndppkcaaGreatDoor.T
open Go Go.RowKit

theorem lt2 {w w1 : World} {o p : Obj} (h : Below ((w.alloc o).alloc p).heap.size ((w.alloc o).alloc p) w1) : w.heap.size < w1.heap.size ∧ w.heap.size + 1 < w1.heap.size := by
  have := h.size; simp only [World.size_alloc] at this; omega

/-- two tags in blocks of their own, and what came behind -/
theorem cells2 {w W : World} {s t : ByteArray} {p q : Bool} (h : Below ((w.alloc (.cells #[.string s, .bool p] 27)).alloc (.cells #[.string t, .bool q] 27)).heap.size ((w.alloc (.cells #[.string s, .bool p] 27)).alloc (.cells #[.string t, .bool q] 27)) W) :
    W.cell? ⟨w.heap.size, 0, none⟩ = some (.string s) ∧ W.cell? ⟨w.heap.size, 1, none⟩ = some (.bool p) ∧ W.cell? ⟨w.heap.size + 1, 0, none⟩ = some (.string t) ∧ W.cell? ⟨w.heap.size + 1, 1, none⟩ = some (.bool q) ∧ w.heap.size < W.heap.size ∧ w.heap.size + 1 < W.heap.size ∧ Ext w W := by
  have hz := h.size
  simp only [World.size_alloc] at hz
  refine ⟨?_, ?_, ?_, ?_, by omega, by omega, ?_⟩
  · rw [h.cell (p := ⟨w.heap.size, 0, none⟩) (by simp; omega)]; simp
  · rw [h.cell (p := ⟨w.heap.size, 1, none⟩) (by simp; omega)]; simp
  · rw [h.cell (p := ⟨w.heap.size + 1, 0, none⟩) (by simp)]; simp
  · rw [h.cell (p := ⟨w.heap.size + 1, 1, none⟩) (by simp)]; simp
  · exact Ext.tr (((Below.refl _ _).alloc (Nat.le_refl _) _).alloc (by simp) _) h

/-- a tag in a block of its own, and what came behind -/
theorem cell1 {w W : World} {s : ByteArray} {p : Bool} (h : Below (w.heap.size + 1) (w.alloc (.cells #[.string s, .bool p] 27)) W) :
    W.cell? ⟨w.heap.size, 0, none⟩ = some (.string s) ∧ W.cell? ⟨w.heap.size, 1, none⟩ = some (.bool p) ∧ w.heap.size < W.heap.size := by
  have hz := h.size
  simp only [World.size_alloc] at hz
  refine ⟨?_, ?_, by omega⟩
  · rw [h.cell (p := ⟨w.heap.size, 0, none⟩) (by simp)]; simp
  · rw [h.cell (p := ⟨w.heap.size, 1, none⟩) (by simp)]; simp

abbrev szM : Nat := 140737488351232
theorem szM_max {n : Nat} (h : n ≤ szM) : n ≤ maxLen := by unfold szM at h; unfold maxLen; omega
set_option maxHeartbeats 1600000 in
theorem weak_any (s t : ByteArray) (p q : Bool) (w : World) (hs : s.size ≤ maxLen) (ht : t.size ≤ maxLen) :
    Calls Tryz.prog 67 #[.agg #[.string s, .bool p], .agg #[.string t, .bool q]] w fun e w' => e = .returned (.bool (wkD s t)) ∧ Below w.heap.size w w' := by
  have hA := fun W => right_any s p W hs
  have hB := fun W => right_any t q W ht
  have HF : Hid (wkD s t = (okS s && okS t && (s.toList == t.toList))) := rfl
  cases h1 : okS s with
  | false =>
    rw [h1] at hA
    have HW : Hid (wkD s t = false) := by unfold Hid; rw [HF.out, h1]; rfl
    clear HF hB
    go_enter Tryz.func67, Tryz.ntmps67
    go_wp2_with (go_at_call 36; with_reducible refine (hA _).mono ?_; rintro e w1 ⟨rfl, hb1⟩; obtain ⟨k0, k1, k2, k3, l1, l2, B1⟩ := cells2 hb1)
    go_ret
    exact ⟨ret_bool HW.out.symm, B1⟩
  | true =>
    rw [h1] at hA
    cases h2 : okS t with
    | false =>
      rw [h2] at hB
      have HW : Hid (wkD s t = false) := by unfold Hid; rw [HF.out, h1, h2]; rfl
      clear HF
      go_enter Tryz.func67, Tryz.ntmps67
      go_wp2_with (first
        | (go_at_call 36; with_reducible refine (hA _).mono ?_; rintro e w1 ⟨rfl, hb1⟩; obtain ⟨k0, k1, k2, k3, l1, l2, B1⟩ := cells2 hb1)
        | (go_at_call 36; with_reducible refine (hB _).mono ?_; rintro e w2 ⟨rfl, hb2⟩; have B2 := Ext.tr B1 hb2; obtain ⟨m0, m1, m2, m3, n1, n2, -⟩ := cells2 (hb1.trans (hb2.mono hb1.size))))
      go_ret
      exact ⟨ret_bool HW.out.symm, B2⟩
    | true =>
      rw [h2] at hB
      have HW : Hid ((s.toList == t.toList) = wkD s t) := by unfold Hid; rw [HF.out, h1, h2]; rfl
      clear HF
      go_enter Tryz.func67, Tryz.ntmps67
      go_wp2_with (first
        | (go_at_call 36; with_reducible refine (hA _).mono ?_; rintro e w1 ⟨rfl, hb1⟩; obtain ⟨k0, k1, k2, k3, l1, l2, B1⟩ := cells2 hb1)
        | (go_at_call 36; with_reducible refine (hB _).mono ?_; rintro e w2 ⟨rfl, hb2⟩; have B2 := Ext.tr B1 hb2; obtain ⟨m0, m1, m2, m3, n1, n2, -⟩ := cells2 (hb1.trans (hb2.mono hb1.size))))
      go_ret
      exact ⟨ret_bool HW.out, B2⟩
set_option maxHeartbeats 1600000 in
theorem strong_any (s t : ByteArray) (p q : Bool) (w : World) (hs : s.size ≤ maxLen) (ht : t.size ≤ maxLen) :
    Calls Tryz.prog 46 #[.agg #[.string s, .bool p], .agg #[.string t, .bool q]] w fun e w' => e = .returned (.bool (stD (s, p) (t, q))) ∧ Below w.heap.size w w' := by
  have hA := fun W => weak_any s t p q W hs ht
  have HF : Hid (stD (s, p) (t, q) = (wkD s t && !p && !q)) := rfl
  cases h1 : wkD s t with
  | false =>
    rw [h1] at hA
    have HW : Hid (stD (s, p) (t, q) = false) := by unfold Hid; rw [HF.out, h1]; rfl
    clear HF
    go_enter Tryz.func46, Tryz.ntmps46
    go_wp2_with (go_at_call 67; with_reducible refine (hA _).mono ?_; rintro e w1 ⟨rfl, hb1⟩; obtain ⟨k0, k1, k2, k3, l1, l2, B1⟩ := cells2 hb1)
    go_ret
    exact ⟨ret_bool HW.out.symm, B1⟩
  | true =>
    rw [h1] at hA
    have HW : Hid ((!p && !q) = stD (s, p) (t, q)) := by unfold Hid; rw [HF.out, h1]; rfl
    clear HF
    cases p <;> cases q <;>
    · go_enter Tryz.func46, Tryz.ntmps46
      go_wp2_with (go_at_call 67; with_reducible refine (hA _).mono ?_; rintro e w1 ⟨rfl, hb1⟩; obtain ⟨k0, k1, k2, k3, l1, l2, B1⟩ := cells2 hb1)
      go_ret
      exact ⟨ret_bool HW.out, B1⟩
end Go.Proofs.YtomcoacndppkcaaGreatDoor.T
