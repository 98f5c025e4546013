/-
  Drop and Put by places: the first run with a byte from a on, the first that begins at b or later.
-/
import Derived.Test.YthbjhpfgfpkppaaDoorIM
namespace Go.Proofs.YthbjhpfgfpkppaaDoor

def idxR (p : Rn → Bool) : List Rn → Nat
  | [] => 0
  | r :: l => if p r then 0 else idxR p l + 1
theorem idxR_le (p : Rn → Bool) : ∀ l : List Rn, idxR p l ≤ l.length
  | [] => Nat.le_refl _
  | r :: l => by
    have := idxR_le p l
    simp only [idxR, List.length_cons]; split <;> omega
theorem idxR_is {p : Rn → Bool} : ∀ {l : List Rn} {i : Nat}, i ≤ l.length → (∀ j (h : j < l.length), j < i → p l[j] = false) → (∀ j (h : j < l.length), i ≤ j → p l[j] = true) → i = idxR p l
  | [], i, h, _, _ => by simpa [idxR] using h
  | r :: l, 0, _, _, h2 => by
    have := h2 0 (by simp) (Nat.le_refl _)
    simp only [List.getElem_cons_zero] at this
    simp [idxR, this]
  | r :: l, i + 1, h, h1, h2 => by
    have h0 := h1 0 (by simp) (Nat.succ_pos _)
    simp only [List.getElem_cons_zero] at h0
    simp only [idxR, h0, Bool.false_eq_true, if_false]
    rw [← idxR_is (p := p) (l := l) (i := i) (by simpa using h) (fun j hj hlt => h1 (j + 1) (by simpa using hj) (by omega)) (fun j hj hle => h2 (j + 1) (by simpa using hj) (by omega))]
/-- ahead of the place nothing fits, and, where fits go on, from there on all does -/
theorem idxR_ahead {p : Rn → Bool} : ∀ {l : List Rn}, ∀ r ∈ l.take (idxR p l), p r = false
  | [], r, h => by simp [idxR] at h
  | x :: l, r, h => by
    simp only [idxR] at h
    split at h
    · simp at h
    · rename_i hx
      simp only [List.take_succ_cons, List.mem_cons] at h
      rcases h with rfl | h
      · simpa using hx
      · exact idxR_ahead r h
theorem idxR_behind {p : Rn → Bool} : ∀ {l : List Rn}, l.Pairwise (fun x y => p x = true → p y = true) → ∀ r ∈ l.drop (idxR p l), p r = true
  | [], _, r, h => by simp [idxR] at h
  | x :: l, hp, r, h => by
    simp only [idxR] at h
    have hp' := List.pairwise_cons.1 hp
    split at h
    · rename_i hx
      simp only [List.drop_zero, List.mem_cons] at h
      rcases h with rfl | h
      · exact hx
      · exact hp'.1 r h hx
    · simp only [List.drop_succ_cons] at h
      exact idxR_behind hp'.2 r h

theorem good_rise : ∀ {lo : Int} {t : Option Int} {l : List Rn}, Good lo t l → l.Pairwise (fun x y => x.2.1 ≤ y.1)
  | _, _, [], _ => List.Pairwise.nil
  | _, _, _ :: _, h => List.pairwise_cons.2 ⟨fun y hy => (good_mem h.2.2.2.2 y hy).1, good_rise h.2.2.2.2⟩
theorem good_pair {lo : Int} {t : Option Int} {l : List Rn} (h : Good lo t l) : l.Pairwise (fun x y => x.1 < y.1 ∧ x.2.1 < y.2.1) := by
  have h1 := good_rise h
  refine (List.Pairwise.imp_of_mem (R := fun x y => x.2.1 ≤ y.1) ?_ h1)
  intro x y hx hy hxy
  have a := good_mem h x hx; have b := good_mem h y hy
  omega

def idxA (l : List Rn) (a : Int) : Nat := idxR (fun r => decide (a < r.2.1)) l
def idxB (l : List Rn) (b : Int) : Nat := idxR (fun r => decide (b ≤ r.1)) l
theorem idxA_le (l : List Rn) (a : Int) : idxA l a ≤ l.length := idxR_le _ _
theorem idxB_le (l : List Rn) (b : Int) : idxB l b ≤ l.length := idxR_le _ _
theorem idxA_ahead {l : List Rn} {a : Int} : ∀ r ∈ l.take (idxA l a), r.2.1 ≤ a := fun r hr => by have := idxR_ahead r hr; simpa using this
theorem idxA_behind {lo : Int} {t : Option Int} {l : List Rn} {a : Int} (h : Good lo t l) : ∀ r ∈ l.drop (idxA l a), a < r.2.1 := fun r hr => by
  have := idxR_behind ((good_pair h).imp (fun {x y} hxy => by intro hx; simp at hx ⊢; omega)) r hr
  simpa using this
theorem idxB_ahead {l : List Rn} {b : Int} : ∀ r ∈ l.take (idxB l b), r.1 < b := fun r hr => by have := idxR_ahead r hr; simpa using this
theorem idxB_behind {lo : Int} {t : Option Int} {l : List Rn} {b : Int} (h : Good lo t l) : ∀ r ∈ l.drop (idxB l b), b ≤ r.1 := fun r hr => by
  have := idxR_behind ((good_pair h).imp (fun {x y} hxy => by intro hx; simp at hx ⊢; omega)) r hr
  simpa using this
theorem idxAB {lo : Int} {t : Option Int} {l : List Rn} {a b : Int} (h : Good lo t l) (hab : a < b) : idxA l a ≤ idxB l b := by
  refine Nat.le_of_not_lt fun hlt => ?_
  have hk : idxB l b < l.length := Nat.lt_of_lt_of_le hlt (idxA_le l a)
  have h1 : l[idxB l b] ∈ l.take (idxA l a) := by
    rw [List.mem_take_iff_getElem]
    exact ⟨idxB l b, by omega, rfl⟩
  have h2 : l[idxB l b] ∈ l.drop (idxB l b) := by
    rw [List.mem_drop_iff_getElem]
    exact ⟨0, by omega, by simp⟩
  have := idxA_ahead _ h1
  have := idxB_behind h _ h2
  have := good_mem h _ (List.getElem_mem hk)
  omega

/-- the runs that have bytes of [a, b) -/
def midF (l : List Rn) (a b : Int) : List Rn := (l.take (idxB l b)).drop (idxA l a)
def dropF (l : List Rn) (a b : Int) : List Rn := l.take (idxA l a) ++ (leftA a (midF l a b) ++ leftB b (midF l a b) ++ l.drop (idxB l b))
def putF (l : List Rn) (a b v : Int) : List Rn := putL a b v ((dropF l a b).take (idxA (dropF l a b) a)) ((dropF l a b).drop (idxA (dropF l a b) a))

theorem mid_split {lo : Int} {t : Option Int} {l : List Rn} {a b : Int} (h : Good lo t l) (hab : a < b) : l.take (idxA l a) ++ (midF l a b ++ l.drop (idxB l b)) = l := by
  have hle := idxAB h hab
  have e : l.take (idxA l a) ++ midF l a b = l.take (idxB l b) := by
    have e := List.take_append_drop (idxA l a) (l.take (idxB l b))
    rw [List.take_take, Nat.min_eq_left hle] at e
    exact e
  rw [← List.append_assoc, e, List.take_append_drop]
theorem mid_cut {lo : Int} {t : Option Int} {l : List Rn} {a b : Int} (h : Good lo t l) : Cut3 a b (l.take (idxA l a)) (midF l a b) (l.drop (idxB l b)) where
  x := idxA_ahead
  m1 := fun r hr => idxA_behind h r (by
    unfold midF at hr
    rw [List.mem_drop_iff_getElem] at hr ⊢
    obtain ⟨k, hk, e⟩ := hr
    simp only [List.length_take] at hk
    rw [List.getElem_take] at e
    exact ⟨k, by omega, e⟩)
  m2 := fun r hr => idxB_ahead r (List.mem_of_mem_drop hr)
  z := idxB_behind h
theorem dropF_good {l : List Rn} {a b : Int} (h : Good 0 none l) (ha : 0 ≤ a) (hab : a < b) : Good 0 none (dropF l a b) :=
  drop_good hab ha (mid_cut h) (by rw [mid_split h hab]; exact h)
theorem dropF_tell {l : List Rn} {a b : Int} (h : Good 0 none l) (hab : a < b) (p : Int) : tell (dropF l a b) p = if a ≤ p ∧ p < b then none else tell l p := by
  have hg := h
  rw [← mid_split h hab, good_app] at hg
  have := drop_tell hab (mid_cut h) (good_app.1 hg.2).1 p
  rw [mid_split h hab] at this
  exact this
theorem dropF_off {l : List Rn} {a b : Int} (h : Good 0 none l) : ∀ r ∈ dropF l a b, r.2.1 ≤ a ∨ b ≤ r.1 := fun r hr => by
  have hc := mid_cut (a := a) (b := b) h
  unfold dropF at hr
  simp only [List.mem_append] at hr
  rcases hr with hr | (hr | hr) | hr
  · exact .inl (hc.x r hr)
  · unfold leftA at hr
    split at hr
    · cases hr
    · split at hr
      · simp at hr; subst hr; exact .inl (Int.le_refl _)
      · cases hr
  · unfold leftB at hr
    split at hr
    · cases hr
    · split at hr
      · simp at hr; subst hr; exact .inr (Int.le_refl _)
      · cases hr
  · exact .inr (hc.z r hr)
theorem putF_facts {l : List Rn} {a b : Int} (h : Good 0 none l) (ha : 0 ≤ a) (hab : a < b) : (∀ r ∈ (dropF l a b).take (idxA (dropF l a b) a), r.2.1 ≤ a) ∧ ∀ r ∈ (dropF l a b).drop (idxA (dropF l a b) a), b ≤ r.1 := by
  have hd := dropF_good h ha hab
  refine ⟨idxA_ahead, fun r hr => ?_⟩
  rcases dropF_off h r (List.mem_of_mem_drop hr) with h1 | h1
  · have := idxA_behind hd r hr; omega
  · exact h1
theorem putF_good {l : List Rn} {a b : Int} (v : Int) (h : Good 0 none l) (ha : 0 ≤ a) (hab : a < b) (hb : b ≤ opnI) : Good 0 none (putF l a b v) :=
  put_good ha hab hb (putF_facts h ha hab).1 (putF_facts h ha hab).2 (by rw [List.take_append_drop]; exact dropF_good h ha hab)
theorem putF_tell {l : List Rn} {a b : Int} (v : Int) (h : Good 0 none l) (ha : 0 ≤ a) (hab : a < b) (p : Int) : tell (putF l a b v) p = if a ≤ p ∧ p < b then some v else tell l p := by
  have := put_tell (v := v) hab (putF_facts h ha hab).1 (putF_facts h ha hab).2 (by rw [List.take_append_drop]; exact dropF_good h ha hab) p
  unfold putF
  rw [this, List.take_append_drop, dropF_tell h hab]
  split <;> rfl
theorem leftA_len (a : Int) (M : List Rn) : (leftA a M).length ≤ 1 := by unfold leftA; split <;> (try split) <;> simp
theorem leftB_len (b : Int) (M : List Rn) : (leftB b M).length ≤ 1 := by unfold leftB; split <;> (try split) <;> simp
theorem dropF_len {lo : Int} {t : Option Int} {l : List Rn} {a b : Int} (h : Good lo t l) (hab : a < b) : (dropF l a b).length ≤ l.length + 1 := by
  have := idxAB h hab; have := idxB_le l b
  unfold dropF
  simp only [List.length_append, List.length_take, List.length_drop]
  by_cases e : idxA l a = idxB l b
  · have : midF l a b = [] := by unfold midF; rw [e]; apply List.drop_of_length_le; simp; omega
    rw [this]; simp [leftA, leftB]; omega
  · have := leftA_len a (midF l a b); have := leftB_len b (midF l a b)
    omega
theorem putX_len (a v : Int) (X : List Rn) : (putX a v X).length ≤ X.length := by unfold putX; split <;> (try split) <;> simp
theorem putZ_len (b v : Int) (Z : List Rn) : (putZ b v Z).length ≤ Z.length := by unfold putZ; split <;> (try split) <;> simp
theorem putF_len {l : List Rn} {a b : Int} (v : Int) (h : Good 0 none l) (hab : a < b) : (putF l a b v).length ≤ l.length + 2 := by
  have h1 := dropF_len h hab
  have h2 := putX_len a v ((dropF l a b).take (idxA (dropF l a b) a))
  have h3 := putZ_len b v ((dropF l a b).drop (idxA (dropF l a b) a))
  have h4 := idxA_le (dropF l a b) a
  unfold putF putL
  simp only [List.length_append, List.length_cons, List.length_take, List.length_drop] at *
  omega
end Go.Proofs.YthbjhpfgfpkppaaDoor
