/-
  Mathematics of the reference's Parse: it is the program's.
-/
import Derived.Test.YtdmkfleiipfbgaaDoorFM
import Derived.Test.YtdmkfleiipfbgaaDoorFS
namespace Go.Proofs.YtdmkfleiipfbgaaDoor
open Go Go.RowKit

def stepQ (p : List UInt8) (acc : List Sp) : Option (List Sp) :=
  if Lib.trimS p [32, 9] = [] then some acc
  else if (itemQ (Lib.trimS p [32, 9])).2 = true then some (acc ++ [(itemQ (Lib.trimS p [32, 9])).1]) else none
def goQ : List (List UInt8) → List Sp → Option (List Sp)
  | [], acc => some acc
  | p :: ps, acc => (stepQ p acc).bind (goQ ps)
theorem stepQ_P (p : List UInt8) (acc : List Sp) : stepP p (acc.take 65) = (stepQ p acc).map (·.take 65) := by
  unfold stepP stepQ
  by_cases h : Lib.trimS p [32, 9] = []
  · rw [if_pos h, if_pos h]; rfl
  · rw [if_neg h, if_neg h]
    obtain ⟨h1, h2⟩ := item_range (Lib.trimS p [32, 9])
    rw [h1]
    by_cases h3 : (rangeD (Lib.trimS p [32, 9])).2 = true
    · rw [if_pos h3, if_pos h3, h2 h3]
      simp only [Option.map_some, Option.some.injEq]
      by_cases hl : acc.length ≤ 64
      · rw [List.take_of_length_le (by omega), if_pos hl, List.take_of_length_le (by simp; omega)]
      · rw [if_neg (by rw [List.length_take]; omega), List.take_append_of_le_length (by omega)]
    · rw [if_neg h3, if_neg h3]; rfl
theorem goQ_P : ∀ (ps : List (List UInt8)) (acc : List Sp), goP ps (acc.take 65) = (goQ ps acc).map (·.take 65)
  | [], _ => rfl
  | p :: ps, acc => by
    unfold goP goQ
    rw [stepQ_P]
    cases stepQ p acc with
    | none => rfl
    | some a => exact goQ_P ps a
theorem endP_take (o : Option (List Sp)) : endP (o.map (·.take 65)) = endP o := by
  cases o with
  | none => rfl
  | some l =>
    simp only [Option.map_some, endP, List.length_take]
    by_cases h0 : l.length = 0
    · rw [if_pos (by omega), if_pos h0]
    · rw [if_neg (by omega), if_neg h0]
      by_cases h1 : 64 < l.length
      · rw [if_pos (by omega), if_pos h1]
      · rw [if_neg (by omega), if_neg h1, List.take_of_length_le (by omega)]

theorem cut_split {c : UInt8} : ∀ s : List UInt8, (Lib.cut s [c]).2.2 = true → s = (Lib.cut s [c]).1 ++ c :: (Lib.cut s [c]).2.1
  | [], h => by rw [cut_nil] at h; cases h
  | x :: r, h => by
    by_cases hx : x = c
    · subst hx; rw [cut_hd]; rfl
    · rw [cut_tl hx] at h ⊢
      have := cut_split r h
      simp only [List.cons_append, List.cons.injEq, true_and]
      exact this
theorem cut_of {c : UInt8} (r : List UInt8) : ∀ u : List UInt8, (∀ x ∈ u, x ≠ c) → Lib.cut (u ++ c :: r) [c] = (u, r, true)
  | [], _ => cut_hd c r
  | x :: u, h => by
    rw [List.cons_append, cut_tl (h x (by simp)), cut_of r u (fun y hy => h y (by simp [hy]))]
theorem fold_low (x y : UInt8) (h : 97 ≤ y.toNat ∧ y.toNat ≤ 122) : Lib.foldEq x y = true ↔ low x = y := by
  rw [← UInt8.toNat_inj, low_nat]
  unfold Lib.foldEq
  simp only [decide_eq_true_eq]
  split <;> omega
theorem equalFold_low : ∀ (u v : List UInt8), (∀ y ∈ v, 97 ≤ y.toNat ∧ y.toNat ≤ 122) → (Lib.equalFold u v = true ↔ u.map low = v)
  | [], [], _ => by simp [Lib.equalFold]
  | [], _ :: _, _ => by simp [Lib.equalFold]
  | _ :: _, [], _ => by simp [Lib.equalFold]
  | x :: u, y :: v, h => by
    have ih := equalFold_low u v (fun z hz => h z (by simp [hz]))
    have h1 := fold_low x y (h y (by simp))
    simp only [Lib.equalFold, Bool.and_eq_true, List.map_cons, List.cons.injEq, h1, ih]
theorem bytesL_small : ∀ y ∈ bytesL, 97 ≤ y.toNat ∧ y.toNat ≤ 122 := by decide
theorem low_eq61 {x : UInt8} (h : low x = 61) : x = 61 := by
  rw [← UInt8.toNat_inj, low_nat] at h
  rw [← UInt8.toNat_inj]
  have e : (61 : UInt8).toNat = 61 := rfl
  rw [e] at h ⊢
  split at h <;> omega

def headQ (s : List UInt8) : Prop := 6 ≤ s.length ∧ (s.take 6).map low = [98, 121, 116, 101, 115, 61]
instance (s : List UInt8) : Decidable (headQ s) := by unfold headQ; exact inferInstance
def parseQ (s : List UInt8) : List Sp × Int := if headQ s then endP (goQ (pieces (s.drop 6)) []) else ([], 2)
theorem low_ne {x y : UInt8} (h : low x = y) (hy : y ≠ 61) : x ≠ 61 := by
  rintro rfl
  exact hy (by rw [← h]; decide)
theorem head_cut {s : List UInt8} (h : headQ s) : (Lib.cut s [61]).2.2 = true ∧ (Lib.cut s [61]).1.length = 5 ∧ Lib.equalFold (Lib.cut s [61]).1 bytesL = true ∧ (Lib.cut s [61]).2.1 = s.drop 6 := by
  obtain ⟨h1, h2⟩ := h
  match s, h1, h2 with
  | a :: b :: c :: d :: e :: f :: r, _, h2 =>
    simp only [List.take_succ_cons, List.take_zero, List.map_cons, List.map_nil, List.cons.injEq, and_true] at h2
    obtain ⟨ha, hb, hc, hd, he, hf⟩ := h2
    have hf' := low_eq61 hf
    subst hf'
    have hcut : Lib.cut (a :: b :: c :: d :: e :: 61 :: r) [61] = ([a, b, c, d, e], r, true) :=
      cut_of r [a, b, c, d, e] (by
        intro x hx
        simp only [List.mem_cons, List.not_mem_nil, or_false] at hx
        rcases hx with rfl | rfl | rfl | rfl | rfl
        · exact low_ne ha (by decide)
        · exact low_ne hb (by decide)
        · exact low_ne hc (by decide)
        · exact low_ne hd (by decide)
        · exact low_ne he (by decide))
    rw [hcut]
    refine ⟨rfl, rfl, ?_, rfl⟩
    rw [equalFold_low _ _ bytesL_small]
    simp [ha, hb, hc, hd, he, bytesL]
theorem cut_head {s : List UInt8} (h1 : (Lib.cut s [61]).2.2 = true) (h2 : (Lib.cut s [61]).1.length = 5) (h3 : Lib.equalFold (Lib.cut s [61]).1 bytesL = true) : headQ s := by
  have hs := cut_split s h1
  rw [equalFold_low _ _ bytesL_small] at h3
  generalize (Lib.cut s [61]).1 = u at *
  generalize (Lib.cut s [61]).2.1 = r at *
  subst hs
  refine ⟨by simp; omega, ?_⟩
  rw [List.take_append, List.take_of_length_le (by omega), h2]
  simp only [show 6 - 5 = 1 from rfl, List.take_succ_cons, List.take_zero, List.map_append, h3, List.map_cons, List.map_nil]
  decide
theorem parse_same (s : List UInt8) : parseQ s = parseD s := by
  unfold parseQ parseD
  by_cases h : headQ s
  · obtain ⟨h1, h2, h3, h4⟩ := head_cut h
    rw [if_pos h, if_pos ⟨h1, h2, h3⟩, h4, ← endP_take, ← goQ_P]
    rfl
  · rw [if_neg h, if_neg (fun hc => h (cut_head hc.1 hc.2.1 hc.2.2))]

/-- bytes ahead of the first piece -/
def glue (u : List UInt8) : List (List UInt8) → List (List UInt8)
  | [] => [u]
  | h :: t => (u ++ h) :: t
theorem glue_nil (s : List UInt8) : glue [] (pieces s) = pieces s := by
  rw [pieces_cut]; rfl
theorem glue_more (u : List UInt8) {x : UInt8} (h : x ≠ 44) (r : List UInt8) : glue u (pieces (x :: r)) = glue (u ++ [x]) (pieces r) := by
  conv => lhs; unfold pieces
  rw [if_neg h]
  cases pieces r with
  | nil => rfl
  | cons a t => simp [glue]
theorem glue_comma (u r : List UInt8) : glue u (pieces (44 :: r)) = u :: pieces r := by
  conv => lhs; unfold pieces
  rw [if_pos rfl]
  simp [glue]
theorem glue_end (u : List UInt8) : glue u (pieces []) = [u] := by
  simp [glue, pieces]
end Go.Proofs.YtdmkfleiipfbgaaDoor
