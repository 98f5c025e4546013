/-
  Copies, trimming, which names and values may be, which fields are right, by the program.
-/
import Derived.Shelf.Strings.SlTrimAscii
import Derived.Test.YtomcoacndppkcaaGreatDoorShelf
import Derived.Lib.QuietBelow
import Derived.Test.YtomcoacndppkcaaGreatDoorEB
namespace Go.Proofs.YtomcoacndppkcaaGreatDoor.F
open Go Go.RowKit
open Go.Sort (grow)

/-- strings.Clone -/
theorem clone_any (s : ByteArray) (w : World) (hm : s.size ≤ 281474976710656) :
    Calls Tryz.prog 69 #[.string s] w fun e w' => e = .returned (.string s) ∧ Below w.heap.size w w' := by
  go_enter Tryz.func69, Tryz.ntmps69
  go_wp2_with (go_at_call 92; with_reducible refine (Tryz.stringslite_Clone s _ hm).mono ?_; rintro e w1 ⟨rfl, hb1⟩)
  go_ret
  exact ⟨rfl, hb1⟩
theorem trimx_any (s : ByteArray) (w : World) (hs : s.size ≤ szM) :
    Calls Tryz.prog 70 #[.string s, .string ⟨#[32, 9]⟩] w fun e w' => e = .returned (.string ⟨(Lib.trimS s.data.toList [32, 9]).toArray⟩) ∧ Below w.heap.size w w' :=
  Any.strings_Trim_laid Tryz.lays160 (by kernel_rfl) s ⟨#[32, 9]⟩ w (by unfold szM at hs; omega) (by decide) (ascii_of_all (by decide))

/-- a field in a block of its own, and what came behind -/
theorem one_cells {w W : World} {s t : ByteArray} (h : Below (w.alloc (.cells #[.string s, .string t] 40)).heap.size (w.alloc (.cells #[.string s, .string t] 40)) W) :
    W.cell? ⟨w.heap.size, 0, none⟩ = some (.string s) ∧ W.cell? ⟨w.heap.size, 1, none⟩ = some (.string t) ∧ W.frozen? ⟨w.heap.size, 0, none⟩ = false ∧ W.frozen? ⟨w.heap.size, 1, none⟩ = false ∧ w.heap.size < W.heap.size ∧ Ext w W := by
  have hz := h.size
  simp only [World.size_alloc] at hz
  refine ⟨?_, ?_, ?_, ?_, by omega, Ext.tr ((Below.refl _ _).alloc (Nat.le_refl _) _) h⟩
  · rw [h.cell (p := ⟨w.heap.size, 0, none⟩) (by simp)]; simp
  · rw [h.cell (p := ⟨w.heap.size, 1, none⟩) (by simp)]; simp
  · rw [h.frozen (p := ⟨w.heap.size, 0, none⟩) (by simp)]; simp
  · rw [h.frozen (p := ⟨w.heap.size, 1, none⟩) (by simp)]; simp

theorem tok_prog : ∀ n < 256, tokN n = (decide (97 ≤ lowN n ∧ lowN n ≤ 122) || decide (48 ≤ n ∧ n ≤ 57) || decide (0 ≤ Lib.indexByte markL (n.toUInt8))) := by decide +kernel

theorem nameS_small {s : ByteArray} (h : s.size < 1) : nameS s = false := by unfold nameS tokS; simp; omega
theorem nameS_great {s : ByteArray} (h : 200 < s.size) : nameS s = false := by unfold nameS; simp; omega
theorem nameS_all {s : ByteArray} (h1 : ¬ s.size < 1) (h2 : ¬ 200 < s.size) : nameS s = s.data.toList.all fun x => tokN x.toNat := by
  unfold nameS tokS
  rw [decide_eq_true (by omega), decide_eq_true (by omega)]; rfl

theorem valueS_great {s : ByteArray} (h : 8192 < s.size) : valueS s = false := by
  unfold valueS; rw [decide_eq_false (by omega)]; rfl
theorem valueS_trim {s : ByteArray} (h : (⟨(trimB s.data.toList).toArray⟩ : ByteArray) ≠ s) : valueS s = false := by
  unfold valueS; rw [decide_eq_false (p := trimB s.data.toList = s.data.toList) (by intro e; exact h (by rw [e, ba_eta]))]; simp
theorem valueS_all {s : ByteArray} (h1 : ¬ 8192 < s.size) (h : (⟨(trimB s.data.toList).toArray⟩ : ByteArray) = s) : valueS s = s.data.toList.all fun x => valN x.toNat := by
  unfold valueS plainS
  rw [decide_eq_true (by omega), decide_eq_true (p := trimB s.data.toList = s.data.toList) (by have := congrArg (fun b => b.data.toList) h; simpa using this)]; rfl

end Go.Proofs.YtomcoacndppkcaaGreatDoor.F
