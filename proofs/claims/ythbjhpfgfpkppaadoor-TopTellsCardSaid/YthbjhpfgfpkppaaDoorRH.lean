/-
  A set's spans as a copy; the first span from a byte on, whether a byte is in it; the reference's Of and First.
-/
import Derived.Test.YthbjhpfgfpkppaaDoorRG
namespace Go.Proofs.YthbjhpfgfpkppaaDoor.Rg
open Go Go.RowKit
open Go.Sort (grow)

/- how many are still false -/
theorem cnt_spec (p : Nat → Bool) : ∀ n, (∀ a b, a ≤ b → b < n → p a = true → p b = true) →
    (List.range n).countP (fun i => !p i) ≤ n ∧ (∀ j, j < (List.range n).countP (fun i => !p i) → p j = false) ∧ (∀ j, (List.range n).countP (fun i => !p i) ≤ j → j < n → p j = true)
  | 0, _ => ⟨by simp, fun j h => by simp at h, fun j _ h => by omega⟩
  | n + 1, h => by
    obtain ⟨h1, h2, h3⟩ := cnt_spec p n (fun a b hab hb => h a b hab (by omega))
    rw [List.range_succ, List.countP_append]
    cases hp : p n with
    | true =>
      simp only [List.countP_cons, List.countP_nil, hp]
      refine ⟨by simp; omega, fun j hj => h2 j (by simpa using hj), fun j hj hn => ?_⟩
      by_cases e : j = n
      · subst e; exact hp
      · exact h3 j (by simpa using hj) (by omega)
    | false =>
      have all : ∀ j, j < n → p j = false := fun j hj => by
        cases hj' : p j with
        | false => rfl
        | true => rw [h j n (by omega) (by omega) hj'] at hp; cases hp
      have e : (List.range n).countP (fun i => !p i) = n := by
        refine Nat.le_antisymm h1 (Nat.le_of_not_lt fun hlt => ?_)
        have := h3 _ (Nat.le_refl _) hlt
        rw [all _ hlt] at this; cases this
      simp only [List.countP_cons, List.countP_nil, hp, e]
      refine ⟨by simp, fun j hj => ?_, fun j hj hn => ?_⟩
      · simp at hj
        by_cases e' : j = n
        · subst e'; exact hp
        · exact all j (by omega)
      · simp at hj; omega

def toOf (l : List Sp) (i : Nat) : Int := (l.getD i (0, 0)).2
theorem toOf_get {l : List Sp} {i : Nat} (h : i < l.length) : toOf l i = l[i].2 := by unfold toOf; rw [List.getD_eq_getElem?_getD, List.getElem?_eq_getElem h]; rfl
theorem Canon.rise {l : List Sp} (h : Canon l) {i j : Nat} (hij : i < j) (hj : j < l.length) : l[i].2 < l[j].1 := by
  have := List.pairwise_iff_getElem.1 h.2 i j (by omega) hj hij; omega
theorem Canon.at_ {l : List Sp} (h : Canon l) {i : Nat} (hi : i < l.length) : 0 ≤ l[i].1 ∧ l[i].1 < l[i].2 ∧ l[i].2 ≤ 4611686018427387904 := h.1 _ (List.getElem_mem hi)

/-- the place of the first span that has a byte from p on -/
def AfterPost (l : List Sp) (p : Int) (w w' : World) (e : Ending) : Prop :=
  ∃ i : Nat, e = .returned (.int .i64 i) ∧ i ≤ l.length ∧ (∀ j (h : j < l.length), j < i → l[j].2 ≤ p) ∧ (∀ j (h : j < l.length), i ≤ j → p < l[j].2) ∧ Below w.heap.size w w'

end Go.Proofs.YthbjhpfgfpkppaaDoor.Rg
