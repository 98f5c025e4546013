/-
  Mathematics of In: what of the runs lies in a span.
-/
import Derived.Test.YtlnfpolhccbnpaaID
namespace Go.Proofs.Ytlnfpolhccbnpaa
open Go Go.RowKit

/-- a run's part in a span -/
def cutI (a b : Int) (r : Rn) : Rn := (mxI r.1 a, mnI r.2.1 b, r.2.2)
def inF (l : List Rn) (a b : Int) : List Rn := (l.map (cutI a b)).filter fun r => decide (r.1 < r.2.1)
theorem inF_append (l m : List Rn) (a b : Int) : inF (l ++ m) a b = inF l a b ++ inF m a b := by unfold inF; simp
theorem inF_none {l : List Rn} {a b : Int} (h : ∀ r ∈ l, ¬ mxI r.1 a < mnI r.2.1 b) : inF l a b = [] := by
  unfold inF
  rw [List.filter_eq_nil_iff]
  intro r hr
  obtain ⟨x, hx, rfl⟩ := List.mem_map.1 hr
  show ¬ decide (mxI x.1 a < mnI x.2.1 b) = true
  rw [decide_eq_true_eq]; exact h x hx
theorem inF_all {l : List Rn} {a b : Int} (h : ∀ r ∈ l, mxI r.1 a < mnI r.2.1 b) : inF l a b = l.map (cutI a b) := by
  unfold inF
  rw [List.filter_eq_self]
  intro r hr
  obtain ⟨x, hx, rfl⟩ := List.mem_map.1 hr
  show decide (mxI x.1 a < mnI x.2.1 b) = true
  rw [decide_eq_true_eq]; exact h x hx
theorem inF_empty (l : List Rn) {a b : Int} (h : ¬ a < b) : inF l a b = [] := inF_none fun r _ => by unfold mxI mnI; omega
theorem inF_mid {l : List Rn} {a b : Int} (h : Good 0 none l) (hab : a < b) : inF l a b = (midF l a b).map (cutI a b) := by
  have hc := mid_cut (a := a) (b := b) h
  have hs := mid_split h hab
  have hm := good_mem h
  conv => lhs; rw [← hs]
  rw [inF_append, inF_append, inF_none (fun r hr => by have := hc.x r hr; unfold mxI mnI; omega), inF_none (l := l.drop _) (fun r hr => by have := hc.z r hr; unfold mxI mnI; omega), List.nil_append, List.append_nil]
  refine inF_all fun r hr => ?_
  have h1 := hc.m1 r hr
  have h2 := hc.m2 r hr
  have h3 := (hm r (by rw [← hs]; simp [hr])).2.1
  unfold mxI mnI; omega
theorem inF_take {l : List Rn} {a b : Int} {k : Nat} (h : k < l.length) : inF (l.take (k + 1)) a b = inF (l.take k) a b ++ (if mxI l[k].1 a < mnI l[k].2.1 b then [cutI a b l[k]] else []) := by
  rw [List.take_succ_eq_append_getElem h, inF_append]
  congr 1
  unfold inF
  by_cases hx : mxI l[k].1 a < mnI l[k].2.1 b
  · rw [if_pos hx]; simp [cutI, hx]
  · rw [if_neg hx]; simp [cutI, hx]
/-- what of the runs lies in a span, right or not -/
def inI (l : List Rn) (a b : Int) : List Rn := if rtB a b then inF l a b else []
theorem inI_no {l : List Rn} {a b : Int} (h : ¬ 0 < lenI a b) : inI l a b = [] := by
  unfold inI
  split
  · rename_i hr
    have := rtB_t hr
    refine inF_empty l fun hab => h (len_pos.2 ?_)
    omega
  · rfl
theorem inI_yes {l : List Rn} {a b : Int} (hg : Good 0 none l) (h : 0 < lenI a b) : inI l a b = (midF l a b).map (cutI a b) := by
  have hp := len_pos.1 h
  unfold inI
  rw [rtB_mk (by omega), if_pos rfl, inF_mid hg hp.2.1]
theorem inF_len (l : List Rn) (a b : Int) : (inF l a b).length ≤ l.length := by
  unfold inF
  exact Nat.le_trans (List.length_filter_le _ _) (by simp)
theorem inI_len (l : List Rn) (a b : Int) : (inI l a b).length ≤ l.length := by
  unfold inI; split
  · exact inF_len l a b
  · simp
/-- a run of the middle, cut, is what it and the span both have -/
theorem mid_meet {l : List Rn} {a b : Int} (h : Good 0 none l) (hab : a < b) : ∀ r ∈ midF l a b, mxI r.1 a < mnI r.2.1 b ∧ rtB r.1 r.2.1 = true := fun r hr => by
  have hc := mid_cut (a := a) (b := b) h
  have hs := mid_split h hab
  have hm := good_mem h r (by rw [← hs]; simp [hr])
  have h1 := hc.m1 r hr
  have h2 := hc.m2 r hr
  refine ⟨by unfold mxI mnI; omega, rtB_mk ?_⟩
  have : (opnI : Int) = 4611686018427387904 := rfl
  omega
end Go.Proofs.Ytlnfpolhccbnpaa
