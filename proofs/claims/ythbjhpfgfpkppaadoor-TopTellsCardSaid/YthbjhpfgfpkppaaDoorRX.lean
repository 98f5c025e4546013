/-
  The example that every statement of layer 2 asks beside its own: true in every start.
-/
import Derived.Test.YthbjhpfgfpkppaaDoorRI
namespace Go.Proofs.YthbjhpfgfpkppaaDoor.Rg
open Go Go.RowKit

/-- a set as a value: its spans' slice, what it reads as -/
def IsSet (W : World) (v : Value) (out : List Sp) : Prop := ∃ s, v = .agg #[s] ∧ IsSp W s out ∧ Canon out
theorem IsSet.st {out : List Sp} : ∀ v W W', IsSet W v out → Ext W W' → IsSet W' v out := fun _ _ _ ⟨s, e, h, c⟩ hb => ⟨s, e, h.below hb, c⟩
theorem IsSet.split {W : World} {v : Value} {l : List Sp} (h : IsSet W v l) : ∃ (A : Option Addr) (n c : Nat), v = .agg #[.slice A n c] ∧ Hid (l.length = n) ∧ n ≤ c ∧ Hid (SpAt W W.heap.size A l) ∧ Hid (Canon l) := by
  obtain ⟨s, rfl, ⟨A, c, rfl, hc, hs⟩, hca⟩ := h
  exact ⟨A, _, c, rfl, rfl, hc, hs, hca⟩
/-- the spans of a list's bytes -/
def Norm (l out : List Sp) : Prop := Canon out ∧ ∀ p, InL out p ↔ InL l p
theorem Norm.eq {l out out' : List Sp} (h : Norm l out) (h' : Norm l out') : out = out' := canon_unique h.1 h'.1 fun p => (h.2 p).trans (h'.2 p).symm

theorem OfS (A : Option Addr) (n c : Nat) (l : List Sp) (w : World) (hn : l.length = n) (hm : n ≤ 1000000) (hs : SpAt w w.heap.size A l) :
    Calls Tryd.prog 6 #[.slice A n c] w fun e w' => ∃ v, e = .returned v ∧ (∃ out, IsSet w' v out ∧ Norm l out ∧ out.length ≤ n) ∧ Below w.heap.size w w' := by
  subst hn
  exact (Of_any A c l w hm hs).mono fun e w' ⟨v, out, he, h1, h2, h3, h4, h5⟩ => ⟨_, he, ⟨out, ⟨v, rfl, h1, h2⟩, ⟨h2, h3⟩, h4⟩, h5⟩
/-- what is known of the list of spans that a set of numbers stands for: unique, so it can be named ahead -/
noncomputable def normL (l : List Sp) : List Sp := closeL 0 ((solidL l).mergeSort fun x y => decide (x.1 ≤ y.1))
theorem normL_norm (l : List Sp) : Norm l (normL l) := by
  have hp := List.mergeSort_perm (solidL l) (fun x y => decide (x.1 ≤ y.1))
  have hs := List.pairwise_mergeSort (le := fun x y : Sp => decide (x.1 ≤ y.1)) (by intro a b c h1 h2; simp at *; omega) (by intro a b; simp; omega) (solidL l)
  obtain ⟨h1, h2, _⟩ := of_ok hp (hs.imp (by simp))
  exact ⟨h1, h2⟩
theorem normL_len (l : List Sp) : (normL l).length ≤ l.length := by
  have h1 := closeL_len 0 ((solidL l).mergeSort fun x y => decide (x.1 ≤ y.1))
  have h2 := (List.mergeSort_perm (solidL l) (fun x y => decide (x.1 ≤ y.1))).length_eq
  have h3 := solidL_len l
  unfold normL; omega
theorem Norm.is {l out : List Sp} (h : Norm l out) : out = normL l := h.eq (normL_norm l)

theorem Of_set (A : Option Addr) (n c : Nat) (l : List Sp) (w : World) (hn : l.length = n) (hm : n ≤ 1000000) (hs : SpAt w w.heap.size A l) :
    Calls Tryd.prog 6 #[.slice A n c] w fun e w' => ∃ v, e = .returned v ∧ IsSet w' v (normL l) ∧ Below w.heap.size w w' :=
  (OfS A n c l w hn hm hs).mono fun _ _ ⟨v, he, ⟨_, h1, h2, _⟩, h4⟩ => ⟨v, he, h2.is ▸ h1, h4⟩
theorem Spans_set {W : World} {v : Value} {l : List Sp} (h : IsSet W v l) (hm : l.length ≤ 1000000) :
    Calls Tryd.prog 13 #[v] W fun e w' => ∃ v', e = .returned v' ∧ IsSp w' v' l ∧ Below W.heap.size W w' := by
  obtain ⟨A, n, c, rfl, HN, _, HS, _⟩ := h.split
  exact Spans_any A n c l W HN.out (by have := HN.out; omega) HS.out
theorem wake_norm : normL [(9, 4611686018427387904), (0, 4), (4, 6)] = [(0, 6), (9, 4611686018427387904)] := by
  refine (Norm.is ⟨⟨?_, ?_⟩, fun p => ?_⟩).symm
  · intro x hx; simp at hx; rcases hx with rfl | rfl <;> (unfold Solid; simp)
  · simp [Gapped]
  · simp only [InL_cons, InL_nil, or_false]; unfold InS; simp only; omega

end Go.Proofs.YthbjhpfgfpkppaaDoor.Rg
