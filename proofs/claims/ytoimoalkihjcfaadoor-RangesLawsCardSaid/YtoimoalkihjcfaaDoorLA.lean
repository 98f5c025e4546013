/-
  Laws of what either, both, only one of two sets has.
-/
import Derived.Test.YtoimoalkihjcfaaDoorTW
import Derived.Test.YtoimoalkihjcfaaDoorLE
namespace Go.Proofs.YtoimoalkihjcfaaDoor
open Go Go.RowKit

theorem Cmb.run {f : Bool → Bool → Bool} (hf : f false false = false) {S T : List Sp} (hS : Canon S) (hT : Canon T) : ∀ (d : Nat) {i j : Nat} {out : List Sp} {fr b : Int} {kp : Bool}, Cmb f S T i j out fr kp b → 2 * S.length + 2 * T.length - (i + j) ≤ d →
    ∃ out', Canon out' ∧ ∀ p, InL out' p ↔ f (anyHas S p) (anyHas T p) = true
  | d, i, j, out, fr, b, kp, h, hd => by
    by_cases hgo : i < 2 * S.length ∨ j < 2 * T.length
    · have hs := Cmb.step hS hT h hgo rfl rfl rfl
      have h1 := h.hi; have h2 := h.hj
      have hm := hs.2.2.2
      cases d with
      | zero => exfalso; omega
      | succ d => exact Cmb.run hf hS hT d hs.1 (by omega)
    · exact ⟨out, Cmb.done hf h (by omega) (by omega)⟩
theorem keepL_spec (op : Int) {a b : List Sp} (ha : Canon a) (hb : Canon b) : Canon (keepL op a b) ∧ ∀ p, anyHas (keepL op a b) p = bopB op (anyHas a p) (anyHas b p) := by
  obtain ⟨out, h1, h2⟩ := Cmb.run (bopB_ff op) ha hb _ (Cmb.start (bopB_ff op) ha hb) (Nat.le_refl _)
  have e := keepL_is (op := op) h1 h2
  rw [← e]
  refine ⟨h1, fun p => ?_⟩
  have k := h2 p
  rw [← anyHas_iff] at k
  cases h : anyHas out p <;> cases h' : bopB op (anyHas a p) (anyHas b p) <;> simp_all
theorem same_has {a b : List Sp} (ha : Canon a) (hb : Canon b) (h : ∀ p, anyHas a p = anyHas b p) : a = b :=
  canon_unique ha hb fun p => by rw [← anyHas_iff, ← anyHas_iff, h p]

variable {X Y Z : List Sp}
theorem law1 (hX : Canon X) (hY : Canon Y) (hZ : Canon Z) : keepL 3 X (keepL 1 Y Z) = keepL 3 (keepL 3 X Y) Z := by
  have a := keepL_spec 1 hY hZ; have b := keepL_spec 3 hX a.1
  have c := keepL_spec 3 hX hY; have d := keepL_spec 3 c.1 hZ
  refine same_has b.1 d.1 fun p => ?_
  rw [b.2, a.2, d.2, c.2]
  cases anyHas X p <;> cases anyHas Y p <;> cases anyHas Z p <;> rfl
theorem law2 (hX : Canon X) (hY : Canon Y) (hZ : Canon Z) : keepL 2 X (keepL 1 Y Z) = keepL 1 (keepL 2 X Y) (keepL 2 X Z) := by
  have a := keepL_spec 1 hY hZ; have b := keepL_spec 2 hX a.1
  have c := keepL_spec 2 hX hY; have d := keepL_spec 2 hX hZ; have e := keepL_spec 1 c.1 d.1
  refine same_has b.1 e.1 fun p => ?_
  rw [b.2, a.2, e.2, c.2, d.2]
  cases anyHas X p <;> cases anyHas Y p <;> cases anyHas Z p <;> rfl
theorem law3 (hX : Canon X) (hY : Canon Y) : keepL 1 (keepL 3 X Y) (keepL 2 X Y) = X := by
  have a := keepL_spec 3 hX hY; have b := keepL_spec 2 hX hY; have c := keepL_spec 1 a.1 b.1
  refine same_has c.1 hX fun p => ?_
  rw [c.2, a.2, b.2]
  cases anyHas X p <;> cases anyHas Y p <;> rfl
theorem none_has {a : List Sp} (ha : Canon a) (h : ∀ p, anyHas a p = false) : a = [] :=
  same_has ha Canon.nil fun p => by rw [h p]; rfl
theorem law4 (hX : Canon X) : keepL 3 X X = [] := by
  have a := keepL_spec 3 hX hX
  refine none_has a.1 fun p => ?_
  rw [a.2]
  cases anyHas X p <;> rfl
theorem law5 (hX : Canon X) (hY : Canon Y) : keepL 1 X Y = keepL 1 Y X := by
  have a := keepL_spec 1 hX hY; have b := keepL_spec 1 hY hX
  refine same_has a.1 b.1 fun p => ?_
  rw [a.2, b.2]
  cases anyHas X p <;> cases anyHas Y p <;> rfl
theorem law6 (hX : Canon X) (hY : Canon Y) : keepL 2 (keepL 3 X Y) Y = [] := by
  have a := keepL_spec 3 hX hY; have b := keepL_spec 2 a.1 hY
  refine none_has b.1 fun p => ?_
  rw [b.2, a.2]
  cases anyHas X p <;> cases anyHas Y p <;> rfl

def SetN (N : Nat) (W : World) (v : Value) (l : List Sp) : Prop := IsSet W v l ∧ l.length ≤ N
theorem SetN.st {N : Nat} {out : List Sp} : ∀ v W W', SetN N W v out → Ext W W' → SetN N W' v out := fun v W W' h e => ⟨IsSet.st v W W' h.1 e, h.2⟩
theorem OrN {N1 N2 : Nat} {W : World} {v u : Value} {a b : List Sp} (M : Nat) (h : SetN N1 W v a) (k : SetN N2 W u b) (h1 : N1 ≤ 10000) (h2 : N2 ≤ 10000) (h3 : 2 * (N1 + N2) ≤ M) :
    Calls Tryd.prog 22 #[v, u] W fun e w' => ∃ v', e = .returned v' ∧ SetN M w' v' (keepL 1 a b) ∧ Below W.heap.size W w' :=
  (Or_set h.1 k.1 (by have := h.2; omega) (by have := k.2; omega)).mono fun _ _ ⟨v, he, hh, hb⟩ => ⟨v, he, ⟨hh.1, by have := hh.2; have := h.2; have := k.2; omega⟩, hb⟩
theorem AndN {N1 N2 : Nat} {W : World} {v u : Value} {a b : List Sp} (M : Nat) (h : SetN N1 W v a) (k : SetN N2 W u b) (h1 : N1 ≤ 10000) (h2 : N2 ≤ 10000) (h3 : 2 * (N1 + N2) ≤ M) :
    Calls Tryd.prog 24 #[v, u] W fun e w' => ∃ v', e = .returned v' ∧ SetN M w' v' (keepL 2 a b) ∧ Below W.heap.size W w' :=
  (And_set h.1 k.1 (by have := h.2; omega) (by have := k.2; omega)).mono fun _ _ ⟨v, he, hh, hb⟩ => ⟨v, he, ⟨hh.1, by have := hh.2; have := h.2; have := k.2; omega⟩, hb⟩
theorem LessN {N1 N2 : Nat} {W : World} {v u : Value} {a b : List Sp} (M : Nat) (h : SetN N1 W v a) (k : SetN N2 W u b) (h1 : N1 ≤ 10000) (h2 : N2 ≤ 10000) (h3 : 2 * (N1 + N2) ≤ M) :
    Calls Tryd.prog 26 #[v, u] W fun e w' => ∃ v', e = .returned v' ∧ SetN M w' v' (keepL 3 a b) ∧ Below W.heap.size W w' :=
  (Less_set h.1 k.1 (by have := h.2; omega) (by have := k.2; omega)).mono fun _ _ ⟨v, he, hh, hb⟩ => ⟨v, he, ⟨hh.1, by have := hh.2; have := h.2; have := k.2; omega⟩, hb⟩
theorem SameN {N1 N2 : Nat} {W : World} {v u : Value} {a b : List Sp} (h : SetN N1 W v a) (k : SetN N2 W u b) (h1 : N1 ≤ 10000) (e : a = b) :
    Calls Tryd.prog 28 #[v, u] W fun e w' => e = .returned (.bool true) ∧ Below W.heap.size W w' := by
  subst e; exact same_yes h.1 k.1 (by have := h.2; omega)
theorem LenN {N1 : Nat} {W : World} {v : Value} {a : List Sp} (h : SetN N1 W v a) (e : a = []) :
    Calls Tryd.prog 19 #[v] W fun e w' => e = .returned (.int .i64 0) ∧ Below W.heap.size W w' := by
  subst e; exact Len_set h.1 (by simp)
end Go.Proofs.YtoimoalkihjcfaaDoor
