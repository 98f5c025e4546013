/-
  Plain mathematics of TopTells: the set of a value's bytes is the spans of the runs that tell it, after each act.
-/
import Derived.Test.YthbjhpfgfpkppaaDoorIP
import Derived.Test.YthbjhpfgfpkppaaDoorKA
namespace Go.Proofs.YthbjhpfgfpkppaaDoor
open Go Go.RowKit

/-- the spans of which anything is told; of which a value is told -/
def spK (l : List Rn) : List Sp := l.map fun r => (r.1, r.2.1)
def spV (v : Int) (l : List Rn) : List Sp := spK (l.filter fun r => decide (r.2.2 = v))
theorem spV_cons (v : Int) (r : Rn) (l : List Rn) : spV v (r :: l) = if r.2.2 = v then (r.1, r.2.1) :: spV v l else spV v l := by
  unfold spV spK
  by_cases h : r.2.2 = v <;> simp [h]
theorem spV_len (v : Int) (l : List Rn) : (spV v l).length ≤ l.length := by unfold spV spK; rw [List.length_map]; exact List.length_filter_le _ _

theorem spV_facts (v : Int) : ∀ {lo : Int} {t : Option Int} {l : List Rn}, Good lo t l → 0 ≤ lo → Canon (spV v l) ∧ (∀ x ∈ spV v l, lo ≤ x.1 ∧ (x.1 = lo → t ≠ some v)) ∧ ∀ p, InL (spV v l) p ↔ tell l p = some v
  | lo, t, [], _, _ => ⟨Canon.nil, (fun _ h => by cases h), fun p => ⟨fun h => absurd h (InL_nil _), fun h => by cases h⟩⟩
  | lo, t, r :: l, h, h0 => by
    obtain ⟨h1, h2, h3, h4, h5⟩ := h
    obtain ⟨c, d, e⟩ := spV_facts v h5 (by omega)
    unfold opnI at h3
    rw [spV_cons]
    by_cases hv : r.2.2 = v
    · rw [if_pos hv]
      refine ⟨⟨?_, ?_⟩, ?_, fun p => ?_⟩
      · intro x hx
        rcases List.mem_cons.1 hx with rfl | hx
        · exact ⟨by show 0 ≤ r.1; omega, h2, h3⟩
        · exact c.1 x hx
      · refine List.pairwise_cons.2 ⟨fun y hy => ?_, c.2⟩
        have k := d y hy
        have : y.1 ≠ r.2.1 := fun q => k.2 q (by rw [hv])
        have := k.1
        show r.2.1 + 0 < y.1
        omega
      · intro x hx
        rcases List.mem_cons.1 hx with rfl | hx
        · exact ⟨h1, fun q => by rw [← hv]; exact h4 q⟩
        · have k := d x hx
          exact ⟨by omega, fun q => by omega⟩
      · rw [InL_cons, e p]
        simp only [tell]
        by_cases hp : r.1 ≤ p ∧ p < r.2.1
        · rw [if_pos hp, hv]
          exact ⟨fun _ => rfl, fun _ => .inl ⟨by show 0 ≤ r.1; omega, hp.1, hp.2, h3⟩⟩
        · rw [if_neg hp]
          exact ⟨fun q => q.elim (fun q => absurd ⟨q.2.1, q.2.2.1⟩ hp) id, .inr⟩
    · rw [if_neg hv]
      refine ⟨c, fun x hx => ?_, fun p => ?_⟩
      · have k := d x hx
        exact ⟨by omega, fun q => by omega⟩
      · simp only [tell]
        by_cases hp : r.1 ≤ p ∧ p < r.2.1
        · rw [if_pos hp]
          refine ⟨fun q => ?_, fun q => absurd (Option.some.inj q) hv⟩
          obtain ⟨x, hx, q⟩ := q
          have k := d x hx
          unfold InS at q
          omega
        · rw [if_neg hp]; exact e p
theorem spV_can {l : List Rn} (h : Good 0 none l) (v : Int) : Canon (spV v l) := (spV_facts v h (Int.le_refl _)).1
theorem spV_in {l : List Rn} (h : Good 0 none l) (v p : Int) : InL (spV v l) p ↔ tell l p = some v := (spV_facts v h (Int.le_refl _)).2.2 p
theorem spK_in {l : List Rn} (h : Good 0 none l) (p : Int) : InL (spK l) p ↔ ∃ v, tell l p = some v := by
  constructor
  · rintro ⟨x, hx, k⟩
    obtain ⟨r, hr, rfl⟩ := List.mem_map.1 hx
    unfold InS at k
    simp only at k
    cases e : tell l p with
    | some v => exact ⟨v, rfl⟩
    | none =>
      exfalso
      clear h hx
      induction l with
      | nil => cases hr
      | cons s l ih =>
        simp only [tell] at e
        split at e
        · cases e
        · rename_i hn
          rcases List.mem_cons.1 hr with rfl | hr
          · exact hn ⟨k.2.1, k.2.2.1⟩
          · exact ih hr e
  · rintro ⟨v, e⟩
    obtain ⟨r, hr, h1, h2, _⟩ := tell_some e
    have := good_mem h r hr
    exact ⟨(r.1, r.2.1), List.mem_map.2 ⟨r, hr, rfl⟩, by unfold opnI at this; unfold InS; simp only; omega⟩

/-- one span's set -/
noncomputable abbrev one (a b : Int) : List Sp := Rg.normL [(a, b)]
theorem one_can (a b : Int) : Canon (one a b) := (Rg.normL_norm _).1
theorem one_in (a b p : Int) : InL (one a b) p ↔ 0 < lenI a b ∧ a ≤ p ∧ p < b := by
  rw [(Rg.normL_norm [(a, b)]).2 p, InL_one, len_pos]
  unfold InS; simp only; omega
theorem one_len (a b : Int) : (one a b).length ≤ 1 := Rg.normL_len _
theorem keep_in (op : Int) {a b : List Sp} (ha : Canon a) (hb : Canon b) (p : Int) : InL (Rg.keepL op a b) p ↔ Rg.bopB op (Rg.anyHas a p) (Rg.anyHas b p) = true := by
  rw [← Rg.anyHas_iff, (Rg.keepL_spec op ha hb).2 p]
theorem or_in {a b : List Sp} (ha : Canon a) (hb : Canon b) (p : Int) : InL (Rg.keepL 1 a b) p ↔ InL a p ∨ InL b p := by
  rw [keep_in 1 ha hb, ← Rg.anyHas_iff, ← Rg.anyHas_iff]
  cases Rg.anyHas a p <;> cases Rg.anyHas b p <;> simp [Rg.bopB]
theorem less_in {a b : List Sp} (ha : Canon a) (hb : Canon b) (p : Int) : InL (Rg.keepL 3 a b) p ↔ InL a p ∧ ¬ InL b p := by
  rw [keep_in 3 ha hb, ← Rg.anyHas_iff, ← Rg.anyHas_iff]
  cases Rg.anyHas a p <;> cases Rg.anyHas b p <;> simp [Rg.bopB]
theorem or_can {a b : List Sp} (ha : Canon a) (hb : Canon b) : Canon (Rg.keepL 1 a b) := (Rg.keepL_spec 1 ha hb).1
theorem less_can {a b : List Sp} (ha : Canon a) (hb : Canon b) : Canon (Rg.keepL 3 a b) := (Rg.keepL_spec 3 ha hb).1

theorem less_spV {l : List Rn} (h : Good 0 none l) (v a b : Int) : Rg.keepL 3 (spV v l) (one a b) = spV v (dropI l a b) :=
  canon_unique (less_can (spV_can h v) (one_can a b)) (spV_can (dropI_good a b h) v) fun p => by
    rw [less_in (spV_can h v) (one_can a b), spV_in h, one_in, spV_in (dropI_good a b h), dropI_tell a b h]
    split
    · rename_i k
      exact ⟨fun q => absurd k q.2, fun q => by cases q⟩
    · rename_i k
      exact ⟨fun q => q.1, fun q => ⟨q, k⟩⟩
theorem or_spV {l : List Rn} (h : Good 0 none l) (v a b : Int) : Rg.keepL 1 (spV v (dropI l a b)) (one a b) = spV v (putI l a b v) :=
  canon_unique (or_can (spV_can (dropI_good a b h) v) (one_can a b)) (spV_can (putI_good a b v h) v) fun p => by
    rw [or_in (spV_can (dropI_good a b h) v) (one_can a b), spV_in (dropI_good a b h), one_in, spV_in (putI_good a b v h), dropI_tell a b h, putI_tell a b v h]
    split
    · rename_i k
      exact ⟨fun _ => rfl, fun _ => .inr k⟩
    · rename_i k
      exact ⟨fun q => q.elim id fun q => absurd q k, .inl⟩
theorem other_spV {l : List Rn} (h : Good 0 none l) (u v a b : Int) (hn : u ≠ v) : spV u (dropI l a b) = spV u (putI l a b v) :=
  canon_unique (spV_can (dropI_good a b h) u) (spV_can (putI_good a b v h) u) fun p => by
    rw [spV_in (dropI_good a b h), spV_in (putI_good a b v h), dropI_tell a b h, putI_tell a b v h]
    split
    · exact ⟨fun q => (by cases q), fun q => absurd (Option.some.inj q).symm hn⟩
    · exact Iff.rfl

/-- what is told is below 4 -/
def Told4 (l : List Rn) : Prop := ∀ r ∈ l, 0 ≤ r.2.2 ∧ r.2.2 < 4
theorem told4_tell {l : List Rn} (h : Told4 l) {p v : Int} (e : tell l p = some v) : 0 ≤ v ∧ v < 4 := by
  obtain ⟨r, hr, _, _, rfl⟩ := tell_some e
  exact h r hr
theorem tell_run {lo : Int} {t : Option Int} {l : List Rn} (h : Good lo t l) : ∀ r ∈ l, tell l r.1 = some r.2.2 := by
  intro r hr
  induction l generalizing lo t with
  | nil => cases hr
  | cons s l ih =>
    obtain ⟨h1, h2, h3, h4, h5⟩ := h
    rcases List.mem_cons.1 hr with rfl | hr
    · exact tell_head _ _ h2
    · have k := good_mem h5 r hr
      simp only [tell]
      rw [if_neg (by omega)]
      exact ih h5 hr
theorem told4_of {l : List Rn} (hg : Good 0 none l) (h : ∀ p v, tell l p = some v → 0 ≤ v ∧ v < 4) : Told4 l := fun r hr => h _ _ (tell_run hg r hr)
theorem told4_drop {l : List Rn} (hg : Good 0 none l) (h : Told4 l) (a b : Int) : Told4 (dropI l a b) := told4_of (dropI_good a b hg) fun p v e => by
  rw [dropI_tell a b hg] at e
  split at e
  · cases e
  · exact told4_tell h e
theorem told4_put {l : List Rn} (hg : Good 0 none l) (h : Told4 l) (a b : Int) {v : Int} (hv : 0 ≤ v ∧ v < 4) : Told4 (putI l a b v) := told4_of (putI_good a b v hg) fun p u e => by
  rw [putI_tell a b v hg] at e
  split at e
  · cases e; exact hv
  · exact told4_tell h e

/-- what is told of the first values -/
noncomputable def allV (l : List Rn) : Nat → List Sp
  | 0 => []
  | k + 1 => Rg.keepL 1 (allV l k) (spV k l)
theorem allV_facts {l : List Rn} (h : Good 0 none l) : ∀ k, Canon (allV l k) ∧ ∀ p, InL (allV l k) p ↔ ∃ v : Nat, v < k ∧ tell l p = some (v : Int)
  | 0 => ⟨Canon.nil, fun p => ⟨fun q => absurd q (InL_nil _), fun ⟨_, q, _⟩ => by omega⟩⟩
  | k + 1 => by
    obtain ⟨c, e⟩ := allV_facts h k
    refine ⟨or_can c (spV_can h k), fun p => ?_⟩
    show InL (Rg.keepL 1 _ _) p ↔ _
    rw [or_in c (spV_can h k), e p, spV_in h]
    constructor
    · rintro (⟨v, hv, q⟩ | q)
      · exact ⟨v, by omega, q⟩
      · exact ⟨k, by omega, q⟩
    · rintro ⟨v, hv, q⟩
      by_cases e : v = k
      · subst e; exact .inr q
      · exact .inl ⟨v, by omega, q⟩
theorem allV_all {l : List Rn} (h : Good 0 none l) (h4 : Told4 l) : allV l 4 = Rg.normL (spK l) :=
  canon_unique (allV_facts h 4).1 (Rg.normL_norm _).1 fun p => by
    rw [(allV_facts h 4).2 p, (Rg.normL_norm _).2 p, spK_in h]
    constructor
    · rintro ⟨v, _, q⟩; exact ⟨_, q⟩
    · rintro ⟨v, q⟩
      have := told4_tell h4 q
      exact ⟨v.toNat, by omega, by rw [q]; congr 1; omega⟩
/-- how many there are -/
def sumV (l : List Rn) : Nat → Nat
  | 0 => 0
  | k + 1 => sumV l k + (spV k l).length
theorem sumV_nil : ∀ k, sumV [] k = 0
  | 0 => rfl
  | k + 1 => by simp [sumV, sumV_nil k, spV, spK]
theorem sumV_cons (r : Rn) (l : List Rn) : ∀ k : Nat, sumV (r :: l) k = sumV l k + if 0 ≤ r.2.2 ∧ r.2.2 < k then 1 else 0
  | 0 => by rw [if_neg (by omega)]; rfl
  | k + 1 => by
    simp only [sumV]
    rw [sumV_cons r l k, spV_cons]
    by_cases e : r.2.2 = (k : Int)
    · rw [if_pos e, if_neg (by omega), if_pos (by omega), List.length_cons]; omega
    · rw [if_neg e]
      by_cases q : 0 ≤ r.2.2 ∧ r.2.2 < (k : Int)
      · rw [if_pos q, if_pos (by omega)]; omega
      · rw [if_neg q, if_neg (by omega)]; omega
theorem sumV_all : ∀ {l : List Rn}, Told4 l → sumV l 4 = l.length
  | [], _ => sumV_nil 4
  | r :: l, h => by
    have k := h r (List.mem_cons_self ..)
    rw [sumV_cons, sumV_all (l := l) (fun s hs => h s (List.mem_cons_of_mem _ hs)), if_pos (by omega)]; rfl
theorem sumV_le {l : List Rn} (h : Told4 l) : ∀ k, sumV l k ≤ k * l.length
  | 0 => by simp [sumV]
  | k + 1 => by
    have := sumV_le h k
    have := spV_len k l
    simp only [sumV]
    rw [Nat.add_mul]; omega
theorem spV_norm {l : List Rn} (h : Good 0 none l) (v : Int) : Rg.normL (spV v l) = spV v l := (Rg.Norm.is ⟨spV_can h v, fun _ => Iff.rfl⟩).symm
end Go.Proofs.YthbjhpfgfpkppaaDoor
