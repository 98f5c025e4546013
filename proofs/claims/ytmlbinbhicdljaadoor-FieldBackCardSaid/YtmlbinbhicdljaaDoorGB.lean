/-
  Mathematics of blocks: what is put is read as it was; what is cut off is not yet whole.
-/
import Derived.Test.YtmlbinbhicdljaaDoorGM
import Derived.Test.YtmlbinbhicdljaaDoorEF
namespace Go.Proofs.YtmlbinbhicdljaaDoor
open Go Go.RowKit

theorem cutLine_app : ∀ (a r : List UInt8), (∀ x ∈ a, x ≠ 13) → cutLine (a ++ 13 :: 10 :: r) = some (a, r)
  | [], r, _ => by simp [cutLine]
  | x :: a, r, h => by
    rw [List.cons_append]
    unfold cutLine
    rw [if_neg (fun e => h x List.mem_cons_self e.1), cutLine_app a r (fun y hy => h y (List.mem_cons_of_mem _ hy))]
    rfl
theorem cutLine_short : ∀ (a r : List UInt8) (k : Nat), (∀ x ∈ a, x ≠ 13) → k < a.length + 2 → cutLine ((a ++ 13 :: 10 :: r).take k) = none
  | _, _, 0, _, _ => by rw [List.take_zero]; rfl
  | [], r, k + 1, _, hk => by
    obtain rfl : k = 0 := by simp only [List.length_nil] at hk; omega
    rfl
  | x :: a, r, k + 1, h, hk => by
    rw [List.cons_append, List.take_succ_cons]
    unfold cutLine
    rw [if_neg (fun e => h x List.mem_cons_self e.1), cutLine_short a r k (fun y hy => h y (List.mem_cons_of_mem _ hy)) (by simp only [List.length_cons] at hk; omega)]
    rfl
theorem cut58_app : ∀ (a r : List UInt8), (∀ x ∈ a, x ≠ 58) → cut58 (a ++ 58 :: r) = some (a, r)
  | [], r, _ => by simp [cut58]
  | x :: a, r, h => by
    rw [List.cons_append]
    unfold cut58
    rw [if_neg (h x List.mem_cons_self), cut58_app a r (fun y hy => h y (List.mem_cons_of_mem _ hy))]
    rfl
theorem tok_not : tokN 13 = false ∧ tokN 58 = false ∧ valN 13 = false := by decide +kernel
theorem right_parts {x y : ByteArray} (h : rightD (x, y) = true) : 1 ≤ x.size ∧ (∀ u ∈ x.data.toList, tokN u.toNat = true) ∧ trimB y.data.toList = y.data.toList ∧ (∀ u ∈ y.data.toList, valN u.toNat = true) := by
  unfold rightD nameS tokS valueS plainS at h
  simp only [Bool.and_eq_true, decide_eq_true_eq, List.all_eq_true] at h
  exact ⟨h.1.2.1, h.1.2.2, h.2.1.2, h.2.2⟩
/-- a field's line without its end -/
def lineOf (f : Fd) : List UInt8 := f.1.data.toList ++ 58 :: 32 :: f.2.data.toList
theorem row_line (f : Fd) (r : List UInt8) : rowL f ++ r = lineOf f ++ 13 :: 10 :: r := by unfold rowL lineOf; simp
theorem lineOf_len (f : Fd) : (lineOf f).length = f.1.size + f.2.size + 2 := by
  unfold lineOf; simp only [List.length_append, List.length_cons, ← Lib.size_eq]; omega
theorem line_no {f : Fd} (h : rightD f = true) : ∀ u ∈ lineOf f, u ≠ 13 := by
  obtain ⟨x, y⟩ := f
  obtain ⟨_, h1, _, h2⟩ := right_parts h
  intro u hu
  unfold lineOf at hu
  rcases List.mem_append.1 hu with hu | hu
  · rintro rfl; have := h1 _ hu; rw [show (13 : UInt8).toNat = 13 from rfl, tok_not.1] at this; cases this
  · rcases List.mem_cons.1 hu with rfl | hu
    · decide
    · rcases List.mem_cons.1 hu with rfl | hu
      · decide
      · rintro rfl; have := h2 _ hu; rw [show (13 : UInt8).toNat = 13 from rfl, tok_not.2.2] at this; cases this
theorem line_some (f : Fd) : lineOf f ≠ [] := by unfold lineOf; simp
theorem line_read {f : Fd} (h : rightD f = true) : readD (lineOf f) = some f := by
  obtain ⟨x, y⟩ := f
  obtain ⟨_, h1, h3, h2⟩ := right_parts h
  have hc : cut58 (lineOf (x, y)) = some (x.data.toList, 32 :: y.data.toList) := cut58_app _ _ (fun u hu => by
    rintro rfl; have := h1 _ hu; rw [show (58 : UInt8).toNat = 58 from rfl, tok_not.2.1] at this; cases this)
  have hf : fieldOf (x.data.toList, 32 :: y.data.toList) = (x, y) := by
    unfold fieldOf
    have e : trimB (32 :: y.data.toList) = y.data.toList := by
      rw [← h3]
      unfold trimB
      rw [trim_two, trim_two, cutL_yes (by decide)]
      have := h3
      unfold trimB at this
      rw [trim_two] at this
      rw [this, this]
    rw [e, ba_eta, ba_eta]
  unfold readD
  rw [hc]
  simp only
  rw [hf, if_pos h]
theorem block_cons (f : Fd) (l : List Fd) : blockL (f :: l) = rowL f ++ blockL l := by unfold blockL rowsL; rw [List.flatMap_cons, List.append_assoc]
theorem parse_block : ∀ (l : List Fd) (big : Bool) (a : Nat) (acc : List Fd) (more : List UInt8), l.all rightD = true → acc.length + l.length ≤ 100 → a + (blockL l).length ≤ 65536 → goL big a acc (blockL l ++ more) = (acc ++ l, a + (blockL l).length, 0)
  | [], big, a, acc, more, _, _, hz => by
    have hc : cutLine (blockL [] ++ more) = some ([], more) := cutLine_app [] more (fun x hx => by cases hx)
    have hl : (blockL []).length = 2 := rfl
    rw [hl] at hz
    rw [goL_end hc (by show ¬ 65536 < a + 0 + 2; omega) rfl, List.append_nil]
    rfl
  | f :: l, big, a, acc, more, hr, hn, hz => by
    rw [List.all_cons, Bool.and_eq_true] at hr
    rw [block_cons] at hz ⊢
    rw [List.append_assoc, row_line]
    have hc := cutLine_app (lineOf f) (blockL l ++ more) (line_no hr.1)
    have hrl := rowL_len f
    have hll := lineOf_len f
    rw [List.length_append] at hz
    simp only [List.length_cons] at hn
    rw [goL_go hc (by show ¬ 65536 < a + (lineOf f).length + 2; omega) (line_some f) (by omega) (line_read hr.1)]
    rw [parse_block l big _ (acc ++ [f]) more hr.2 (by rw [List.length_append, List.length_singleton]; omega) (by show a + (lineOf f).length + 2 + _ ≤ _; omega)]
    have e : a + (lineOf f).length + 2 + (blockL l).length = a + (rowL f ++ blockL l).length := by rw [List.length_append]; omega
    rw [List.append_assoc, List.singleton_append, e]
theorem parse_cut : ∀ (l : List Fd) (a : Nat) (acc : List Fd) (k : Nat), l.all rightD = true → acc.length + l.length ≤ 100 → a + k ≤ 65536 → k < (blockL l).length → goL false a acc ((blockL l).take k) = ([], 0, 3)
  | [], a, acc, k, _, _, _, hk => by
    have hc : cutLine ((blockL []).take k) = none := cutLine_short [] [] k (fun x hx => by cases hx) hk
    rw [goL_none hc]; rfl
  | f :: l, a, acc, k, hr, hn, hz, hk => by
    rw [List.all_cons, Bool.and_eq_true] at hr
    rw [block_cons] at hk ⊢
    rw [List.length_append] at hk
    have hrl := rowL_len f
    have hll := lineOf_len f
    simp only [List.length_cons] at hn
    by_cases h : k < (lineOf f).length + 2
    · rw [row_line, goL_none (cutLine_short _ _ k (line_no hr.1) h)]; rfl
    · obtain ⟨j, rfl⟩ : ∃ j, k = (rowL f).length + j := ⟨k - (rowL f).length, by omega⟩
      rw [List.take_length_add_append, row_line]
      have hc := cutLine_app (lineOf f) ((blockL l).take j) (line_no hr.1)
      rw [goL_go hc (by show ¬ 65536 < a + (lineOf f).length + 2; omega) (line_some f) (by omega) (line_read hr.1)]
      exact parse_cut l _ (acc ++ [f]) j hr.2 (by rw [List.length_append, List.length_singleton]; omega) (by show a + (lineOf f).length + 2 + j ≤ _; omega) (by omega)
end Go.Proofs.YtmlbinbhicdljaaDoor
