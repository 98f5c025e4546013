/-
  The reference's Fold: as long as two spans are near they are made one; it comes to the same as the program's.
-/
import Derived.StillTailTactics
import Derived.Test.YtdmkfleiipfbgaaDoorPP
namespace Go.Proofs.YtdmkfleiipfbgaaDoor
open Go Go.RowKit
open Go.Sort (grow)

def msrA (v ag : Value) : Nat := match ag, v with
  | .bool true, .slice _ n _ => n + 1
  | _, _ => 0
def msrB (n : Nat) (ag iv : Value) : Nat := match ag with
  | .bool true => 0
  | _ => n + 1 - (intOf iv).toNat

/-- two of a list made one: at the first one's place -/
def mrgL (l : List Sp) (i k : Nat) (h : Sp) (m : Nat) : List Sp := ((l.set i h).take m).eraseIdx k
theorem mrg_skip {l : List Sp} {i k : Nat} {h : Sp} (hk : k < l.length) : mrgL l i k h (k + 1) = mrgL l i k h k := by
  have hs : k < (l.set i h).length := by simpa using hk
  unfold mrgL
  rw [List.take_succ_eq_append_getElem hs]
  have e : ((l.set i h).take k).length = k := by rw [List.length_take]; omega
  rw [List.eraseIdx_append_of_length_le (by omega), e, Nat.sub_self, List.eraseIdx_of_length_le (l := (l.set i h).take k) (by omega)]
  simp
theorem mrg_more {l : List Sp} {i k m : Nat} {h : Sp} (hm : m < l.length) (hne : m ≠ k) : mrgL l i k h (m + 1) = mrgL l i k h m ++ [if m = i then h else l[m]] := by
  have hs : m < (l.set i h).length := by simpa using hm
  unfold mrgL
  rw [List.take_succ_eq_append_getElem hs]
  have e : ((l.set i h).take m).length = m := by rw [List.length_take]; omega
  have e2 : (l.set i h)[m] = if m = i then h else l[m] := by
    rw [List.getElem_set]
    by_cases c : i = m
    · rw [if_pos c, if_pos c.symm]
    · rw [if_neg c, if_neg (fun x => c x.symm)]
  rw [e2]
  rcases Nat.lt_or_gt_of_ne hne with hlt | hgt
  · rw [List.eraseIdx_of_length_le (l := (l.set i h).take m) (by omega), List.eraseIdx_of_length_le (by simp; omega)]
  · rw [List.eraseIdx_append_of_lt_length (by omega)]
theorem mrg_len {l : List Sp} {i k : Nat} {h : Sp} (hk : k < l.length) : (mrgL l i k h l.length).length + 1 = l.length := by
  unfold mrgL
  rw [List.take_of_length_le (by simp), List.length_eraseIdx_of_lt (by simpa using hk)]
  simp; omega
theorem mrg_le {l : List Sp} {i k m : Nat} {h : Sp} : (mrgL l i k h m).length ≤ m := by
  unfold mrgL
  have h1 := List.length_eraseIdx_le ((l.set i h).take m) k
  have h2 := List.length_take_le m (l.set i h)
  omega
theorem split_two {l : List Sp} {i k : Nat} (hik : i < k) (hk : k < l.length) : ∃ A B D, l = A ++ l[i] :: (B ++ l[k] :: D) ∧ A.length = i ∧ A.length + 1 + B.length = k := by
  refine ⟨l.take i, (l.drop (i + 1)).take (k - (i + 1)), l.drop (k + 1), ?_, by rw [List.length_take]; omega, by rw [List.length_take, List.length_take, List.length_drop]; omega⟩
  have e1 : l.drop k = l[k] :: l.drop (k + 1) := List.drop_eq_getElem_cons hk
  have e2 : (l.drop (i + 1)).drop (k - (i + 1)) = l.drop k := by rw [List.drop_drop]; congr 1; omega
  have e3 : l.drop (i + 1) = (l.drop (i + 1)).take (k - (i + 1)) ++ l.drop k := by rw [← e2, List.take_append_drop]
  have e4 : l.drop i = l[i] :: l.drop (i + 1) := List.drop_eq_getElem_cons (by omega)
  conv => lhs; rw [← List.take_append_drop i l, e4, e3, e1]
theorem mrg_fin {g : Int} {l : List Sp} {i k : Nat} {h : Sp} (hs : SolidL l) (hik : i < k) (hk : k < l.length) (e1 : h.1 = min (l[i]'(by omega)).1 l[k].1) (e2 : h.2 = max (l[i]'(by omega)).2 l[k].2) (hn : NearP g (l[i]'(by omega)) l[k]) :
    SolidL (mrgL l i k h l.length) ∧ foldL g (mrgL l i k h l.length) = foldL g l := by
  obtain ⟨A, B, D, hl, hA, hB⟩ := split_two hik hk
  generalize hx : (l[i]'(by omega)) = x at *
  generalize hy : l[k] = y at *
  clear hx hy
  have e : mrgL l i k h l.length = A ++ h :: (B ++ D) := by
    unfold mrgL
    rw [List.take_of_length_le (by simp), hl]
    have s1 : (A ++ x :: (B ++ y :: D)).set i h = A ++ h :: (B ++ y :: D) := by
      rw [List.set_append_right _ _ (by omega), hA, Nat.sub_self]; rfl
    rw [s1, List.eraseIdx_append_of_length_le (by omega)]
    have q1 : k - A.length = B.length + 1 := by omega
    rw [q1, List.eraseIdx_cons_succ, List.eraseIdx_append_of_length_le (Nat.le_refl _), Nat.sub_self]
    rfl
  rw [e]
  rw [hl] at hs
  have := fold_merge (g := g) hs e1 e2 hn
  rw [hl]
  exact this

/-- the spans ahead of i are near none behind them -/
def NoN (g : Int) (l : List Sp) (i : Nat) : Prop := ∀ a b (ha : a < l.length) (hb : b < l.length), a < i → a < b → ¬ NearP g l[a] l[b]
def NoK (g : Int) (l : List Sp) (i k : Nat) : Prop := ∀ b (hi : i < l.length) (hb : b < l.length), i < b → b < k → ¬ NearP g l[i] l[b]
theorem near_symm {g : Int} {x y : Sp} (h : NearP g x y) : NearP g y x := ⟨h.2, h.1⟩
theorem NoN.far {g : Int} {l : List Sp} {i : Nat} (h : NoN g l i) (hi : l.length ≤ i) : Far g l := by
  intro a b ha hb hab hn
  rcases Nat.lt_or_gt_of_ne hab with hlt | hlt
  · exact h a b ha hb (by omega) hlt hn
  · exact h b a hb ha (by omega) hlt (near_symm hn)
theorem NoN.next {g : Int} {l : List Sp} {i k : Nat} (h : NoN g l i) (hk : NoK g l i k) (hl : l.length ≤ k) : NoN g l (i + 1) := by
  intro a b ha hb hai hab
  by_cases e : a = i
  · subst e; exact hk b ha hb hab (by omega)
  · exact h a b ha hb (by omega) hab
theorem NoK.more {g : Int} {l : List Sp} {i k : Nat} (h : NoK g l i k) (hi : i < l.length) (hk : k < l.length) (hn : ¬ NearP g l[i] l[k]) : NoK g l i (k + 1) := by
  intro b hi' hb hib hbk
  by_cases e : b = k
  · subst e; exact hn
  · exact h b hi' hb hib (by omega)
end Go.Proofs.YtdmkfleiipfbgaaDoor
