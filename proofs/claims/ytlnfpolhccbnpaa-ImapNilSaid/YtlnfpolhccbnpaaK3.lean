/-
  The reference's runs: mathematics.
-/
import Derived.Test.YtlnfpolhccbnpaaK1
namespace Go.Proofs.Ytlnfpolhccbnpaa
open Go Go.RowKit

structure EdgeOk (l : List Ac) (e : List Int) : Prop where
  rise : e.Pairwise (· < ·)
  zero : (0 : Int) ∈ e
  bound : ∀ x ∈ e, 0 ≤ x ∧ x ≤ opnI
  ends : ∀ x ∈ l, 0 < lenI x.2.1 x.2.2.1 → x.2.1 ∈ e ∧ x.2.2.1 ∈ e
theorem edgeA_mem {y : Int} {o : List Int} {x : Ac} (h : y ∈ o) : y ∈ edgeA o x := by
  unfold edgeA; split
  · exact mem_insL.2 (.inr (mem_insL.2 (.inr h)))
  · exact h
theorem edges_mem {y : Int} : ∀ (l : List Ac) {o : List Int}, y ∈ o → y ∈ l.foldl edgeA o
  | [], _, h => h
  | _ :: l, _, h => edges_mem l (edgeA_mem h)
theorem edges_fold : ∀ (l : List Ac) (o : List Int), o.Pairwise (· < ·) → (0 : Int) ∈ o → (∀ x ∈ o, 0 ≤ x ∧ x ≤ opnI) → EdgeOk l (l.foldl edgeA o)
  | [], o, h1, h2, h3 => ⟨h1, h2, h3, fun _ h => by cases h⟩
  | x :: l, o, h1, h2, h3 => by
    have hb : (edgeA o x).Pairwise (· < ·) ∧ ∀ z ∈ edgeA o x, 0 ≤ z ∧ z ≤ opnI := by
      unfold edgeA; split
      · rename_i hp
        have := len_pos.1 hp
        refine ⟨insL_sorted (insL_sorted h1), fun z hz => ?_⟩
        rcases mem_insL.1 hz with rfl | hz
        · unfold opnI; omega
        · rcases mem_insL.1 hz with rfl | hz
          · unfold opnI; omega
          · exact h3 z hz
      · exact ⟨h1, h3⟩
    have ih := edges_fold l (edgeA o x) hb.1 (edgeA_mem h2) hb.2
    refine ⟨ih.rise, ih.zero, ih.bound, fun z hz hp => ?_⟩
    rcases List.mem_cons.1 hz with rfl | hz
    · have h : z.2.1 ∈ edgeA o z ∧ z.2.2.1 ∈ edgeA o z := by
        unfold edgeA; rw [if_pos hp]
        exact ⟨mem_insL.2 (.inr (mem_insL.2 (.inl rfl))), mem_insL.2 (.inl rfl)⟩
      exact ⟨edges_mem l h.1, edges_mem l h.2⟩
    · exact ih.ends z hz hp
theorem edges_ok (l : List Ac) : EdgeOk l (edgesA l) :=
  edges_fold l [0] (by simp) (by simp) (fun x hx => by simp at hx; subst hx; unfold opnI; omega)

/-- what is told of a byte -/
def toldO (l : List Ac) (p : Int) : Option Int := if (tldI l p).2 then some (tldI l p).1 else Option.none
theorem tld_same {p q : Int} : ∀ (l : List Ac) (r : Int × Bool), (∀ x ∈ l, hitB x p = hitB x q) → l.foldl (fun r x => if hitB x p then (x.2.2.2, !x.1) else r) r = l.foldl (fun r x => if hitB x q then (x.2.2.2, !x.1) else r) r
  | [], _, _ => rfl
  | x :: l, r, h => by
    simp only [List.foldl_cons]
    rw [h x (List.mem_cons_self ..)]
    exact tld_same l _ fun y hy => h y (List.mem_cons_of_mem _ hy)
theorem tld_none {p : Int} : ∀ (l : List Ac) (r : Int × Bool), (∀ x ∈ l, hitB x p = false) → l.foldl (fun r x => if hitB x p then (x.2.2.2, !x.1) else r) r = r
  | [], _, _ => rfl
  | x :: l, r, h => by
    simp only [List.foldl_cons]
    rw [h x (List.mem_cons_self ..)]
    exact tld_none l _ fun y hy => h y (List.mem_cons_of_mem _ hy)
/-- between two edges next to each other nothing changes -/
theorem told_gap {l : List Ac} {e : List Int} (h : EdgeOk l e) {i : Nat} (hi : i + 1 < e.length) {p : Int} (h1 : e[i] ≤ p) (h2 : p < e[i + 1]) : tldI l p = tldI l e[i] := by
  have hno : ∀ z ∈ e, z ≤ e[i] ∨ e[i + 1] ≤ z := fun z hz => by
    obtain ⟨j, hj, rfl⟩ := List.mem_iff_getElem.1 hz
    rcases Nat.lt_trichotomy j i with hk | rfl | hk
    · left; have := List.pairwise_iff_getElem.1 h.rise j i hj (by omega) hk; omega
    · left; omega
    · right
      rcases Nat.lt_or_eq_of_le (show i + 1 ≤ j by omega) with h3 | h3
      · have := List.pairwise_iff_getElem.1 h.rise (i + 1) j hi hj h3; omega
      · subst h3; omega
  refine tld_same l _ fun x hx => ?_
  unfold hitB
  by_cases hp : 0 < lenI x.2.1 x.2.2.1
  · obtain ⟨ha, hb⟩ := h.ends x hx hp
    have h3 := hno _ ha; have h4 := hno _ hb
    rw [Bool.eq_iff_iff]
    simp only [Bool.and_eq_true, decide_eq_true_eq]
    constructor <;> rintro ⟨⟨_, _⟩, _⟩ <;> refine ⟨⟨hp, ?_⟩, ?_⟩ <;> omega
  · simp [hp]
/-- behind the last edge nothing is told -/
theorem told_end {l : List Ac} {e : List Int} (h : EdgeOk l e) {p : Int} (hp : ∀ z ∈ e, z ≤ p) : tldI l p = (0, false) := by
  refine tld_none l _ fun x hx => ?_
  unfold hitB
  by_cases hq : 0 < lenI x.2.1 x.2.2.1
  · obtain ⟨_, hb⟩ := h.ends x hx hq
    have := hp _ hb
    simp only [Bool.and_eq_false_iff, decide_eq_false_iff_not]
    right; omega
  · simp [hq]
/-- the runs up to an edge -/
def RunsTo (l : List Ac) (b : Int) (out : List Rn) : Prop :=
  Good 0 Option.none out ∧ eTo 0 out ≤ b ∧ ∀ p, tell out p = if 0 ≤ p ∧ p < b then toldO l p else Option.none
theorem RunsTo.start (l : List Ac) : RunsTo l 0 [] := ⟨trivial, Int.le_refl _, fun p => by rw [if_neg (by omega)]; rfl⟩
theorem RunsTo.skip {l : List Ac} {b b' : Int} {out : List Rn} (h : RunsTo l b out) (hb : b ≤ b') (hn : ∀ p, b ≤ p → p < b' → toldO l p = Option.none) : RunsTo l b' out := by
  refine ⟨h.1, Int.le_trans h.2.1 hb, fun p => ?_⟩
  rw [h.2.2 p]
  by_cases h1 : 0 ≤ p ∧ p < b
  · rw [if_pos h1, if_pos (by omega)]
  · rw [if_neg h1]
    by_cases h2 : 0 ≤ p ∧ p < b'
    · rw [if_pos h2, hn p (by omega) h2.2]
    · rw [if_neg h2]
theorem tell_one (a b v p : Int) : tell [(a, b, v)] p = if a ≤ p ∧ p < b then some v else Option.none := by simp [tell]
theorem RunsTo.put {l : List Ac} {b b' v : Int} {out : List Rn} (h : RunsTo l b out) (h0 : 0 ≤ b) (hb : b < b') (ho : b' ≤ opnI) (hn : ∀ p, b ≤ p → p < b' → toldO l p = some v) (ht : b = eTo 0 out → eTd Option.none out ≠ some v) : RunsTo l b' (out ++ [(b, b', v)]) := by
  refine ⟨good_app.2 ⟨h.1, h.2.1, hb, ho, ht, trivial⟩, by rw [eTo_app]; exact Int.le_refl _, fun p => ?_⟩
  rw [tell_app, h.2.2 p, tell_one]
  by_cases h1 : 0 ≤ p ∧ p < b
  · rw [if_pos h1, if_neg (by omega), Option.or_none, if_pos (by omega)]
  · rw [if_neg h1, Option.none_or]
    by_cases h2 : b ≤ p ∧ p < b'
    · rw [if_pos h2, if_pos (by omega), hn p h2.1 h2.2]
    · rw [if_neg h2, if_neg (by omega)]
theorem RunsTo.grow {l : List Ac} {a b b' v : Int} {out : List Rn} (h : RunsTo l b (out ++ [(a, b, v)])) (h0 : 0 ≤ b) (hb : b < b') (ho : b' ≤ opnI) (hn : ∀ p, b ≤ p → p < b' → toldO l p = some v) : RunsTo l b' (out ++ [(a, b', v)]) := by
  obtain ⟨g1, g2⟩ := good_app.1 h.1
  obtain ⟨g3, g4, g5, g6, _⟩ := g2
  simp only at g3 g4 g5 g6
  refine ⟨good_app.2 ⟨g1, g3, by show a < b'; omega, ho, g6, trivial⟩, by rw [eTo_app]; exact Int.le_refl _, fun p => ?_⟩
  have h3 := h.2.2 p
  rw [tell_app, tell_one] at h3 ⊢
  have hlow : 0 ≤ a := Int.le_trans (good_end g1) g3
  have hx : a ≤ p → tell out p = Option.none := fun hp => tell_none fun r hr => by have := good_mem g1 r hr; omega
  by_cases h1 : a ≤ p ∧ p < b
  · rw [if_pos h1] at h3; rw [if_pos (by omega), h3, if_pos (by omega), if_pos (by omega)]
  · rw [if_neg h1, Option.or_none] at h3
    by_cases h2 : b ≤ p ∧ p < b'
    · rw [if_pos (by omega), if_pos (by omega), hx (by omega), hn p h2.1 h2.2]; rfl
    · rw [if_neg (by omega), Option.or_none, h3]
      by_cases h4 : 0 ≤ p ∧ p < b
      · rw [if_pos h4, if_pos (by omega)]
      · rw [if_neg h4, if_neg (by omega)]
/-- behind all edges they are the map's runs -/
theorem RunsTo.done {l : List Ac} {e : List Int} {b : Int} {out : List Rn} (he : EdgeOk l e) (h : RunsTo l b out) (hb : ∀ z ∈ e, z ≤ b) : out = actsI [] l := by
  refine good_unique h.1 (actsI_good l (D := []) trivial) fun p hp => ?_
  rw [h.2.2 p, tld_acts]
  by_cases h1 : 0 ≤ p ∧ p < b
  · rw [if_pos h1]; rfl
  · rw [if_neg h1, told_end he (fun z hz => by have := hb z hz; omega)]; rfl
end Go.Proofs.Ytlnfpolhccbnpaa
