/-
  Plain mathematics: spans laid from place to place where a set begins and ends.
-/
import Derived.Test.YthbjhpfgfpkppaaGreatDoorRMath
namespace Go.Proofs.YthbjhpfgfpkppaaGreatDoor

/-- which bytes, told at places between which nothing turns -/
structure EdgeOK (K : Int → Bool) (E : List Int) : Prop where
  sorted : E.Pairwise (· < ·)
  lo : ∀ e ∈ E, 0 ≤ e
  hi : ∀ e ∈ E, e ≤ 4611686018427387904
  mid : ∀ (k : Nat) (h : k + 1 < E.length) (p : Int), E[k] ≤ p → p < E[k + 1] → K p = K E[k]
  ahead : ∀ p, (∀ e ∈ E, p < e) → K p = false
  behind : ∀ p, (∀ e ∈ E, e ≤ p) → K p = false
theorem EdgeOK.lt {K : Int → Bool} {E : List Int} (h : EdgeOK K E) {i j : Nat} (hij : i < j) (hj : j < E.length) : E[i] < E[j] := List.pairwise_iff_getElem.1 h.sorted i j (by omega) hj hij

/-- what has been laid up to place k -/
def OfR (K : Int → Bool) (E : List Int) (k : Nat) (out : List Sp) : Prop :=
  Canon out ∧ ∀ h : k < E.length, (∀ x ∈ out, x.2 ≤ E[k]) ∧ ∀ p, p < E[k] → (InL out p ↔ K p = true)
theorem OfR.start {K : Int → Bool} {E : List Int} (o : EdgeOK K E) : OfR K E 0 [] := by
  refine ⟨Canon.nil, fun h => ⟨fun _ hx => (by cases hx), fun p hp => ?_⟩⟩
  have := o.ahead p (fun e he => by
    obtain ⟨i, hi, rfl⟩ := List.getElem_of_mem he
    rcases Nat.eq_zero_or_pos i with h0 | h0
    · subst h0; exact hp
    · have := o.lt h0 hi; omega)
  simp [this, InL_nil]
theorem OfR.no {K : Int → Bool} {E : List Int} (o : EdgeOK K E) {k : Nat} {out : List Sp} (h : OfR K E k out) (hk : k + 1 < E.length) (hK : K (E[k]'(by omega)) = false) : OfR K E (k + 1) out := by
  obtain ⟨hc, h⟩ := h
  obtain ⟨h1, h2⟩ := h (by omega)
  have lt := o.lt (show k < k + 1 by omega) hk
  refine ⟨hc, fun _ => ⟨fun x hx => by have := h1 x hx; omega, fun p hp => ?_⟩⟩
  rcases Int.lt_or_le p (E[k]'(by omega)) with hlt | hge
  · exact h2 p hlt
  · rw [o.mid k hk p hge hp, hK]
    refine ⟨fun ⟨x, hx, hp⟩ => ?_, fun h => by cases h⟩
    have := h1 x hx; unfold InS at hp; omega
theorem OfR.more {K : Int → Bool} {E : List Int} (o : EdgeOK K E) {k : Nat} {out : List Sp} (h : OfR K E k out) (hk : k + 1 < E.length) (hK : K (E[k]'(by omega)) = true) (hne : ∀ x ∈ out, x.2 ≠ E[k]'(by omega)) :
    OfR K E (k + 1) (out ++ [(E[k]'(by omega), E[k + 1])]) := by
  obtain ⟨hc, h⟩ := h
  obtain ⟨h1, h2⟩ := h (by omega)
  have lt := o.lt (show k < k + 1 by omega) hk
  have l0 := o.lo _ (List.getElem_mem (show k < E.length by omega))
  have h0 := o.hi _ (List.getElem_mem hk)
  refine ⟨hc.snoc (by unfold Solid; simp only; omega) (fun y hy => by have := h1 y hy; have := hne y hy; simp only; omega), fun _ => ⟨fun x hx => ?_, fun p hp => ?_⟩⟩
  · rcases List.mem_append.1 hx with hx | hx
    · have := h1 x hx; omega
    · simp at hx; subst hx; exact Int.le_refl _
  · rw [InL_append, InL_one]
    rcases Int.lt_or_le p (E[k]'(by omega)) with hlt | hge
    · rw [← h2 p hlt]
      have : ¬ InS (E[k]'(by omega), E[k + 1]) p := by unfold InS; simp only; omega
      simp [this]
    · rw [o.mid k hk p hge hp, hK]
      have : InS (E[k]'(by omega), E[k + 1]) p := by unfold InS; simp only; omega
      simp [this]
theorem OfR.ext {K : Int → Bool} {E : List Int} (o : EdgeOK K E) {k : Nat} {init : List Sp} {y : Sp} (h : OfR K E k (init ++ [y])) (hk : k + 1 < E.length) (hK : K (E[k]'(by omega)) = true) (hy : y.2 = E[k]'(by omega)) :
    OfR K E (k + 1) (init ++ [(y.1, E[k + 1])]) := by
  obtain ⟨hc, h⟩ := h
  obtain ⟨h1, h2⟩ := h (by omega)
  have lt := o.lt (show k < k + 1 by omega) hk
  have h0 := o.hi _ (List.getElem_mem hk)
  have sy : Solid y := hc.1 y (by simp)
  unfold Solid at sy
  refine ⟨hc.init.snoc (by unfold Solid; simp only; omega) (fun z hz => hc.le_end z hz), fun _ => ⟨fun x hx => ?_, fun p hp => ?_⟩⟩
  · rcases List.mem_append.1 hx with hx | hx
    · have := h1 x (List.mem_append_left _ hx); omega
    · simp at hx; subst hx; exact Int.le_refl _
  · rw [InL_append, InL_one]
    rcases Int.lt_or_le p (E[k]'(by omega)) with hlt | hge
    · rw [← h2 p hlt, InL_append, InL_one]
      have : InS (y.1, E[k + 1]) p ↔ InS y p := by unfold InS; simp only; omega
      rw [this]
    · rw [o.mid k hk p hge hp, hK]
      have : InS (y.1, E[k + 1]) p := by unfold InS; simp only; omega
      simp [this]
theorem OfR.fin {K : Int → Bool} {E : List Int} (o : EdgeOK K E) {k : Nat} {out : List Sp} (h : OfR K E k out) (hk : E.length ≤ k + 1) (hk' : k < E.length ∨ (E = [] ∧ out = [])) : Canon out ∧ ∀ p, InL out p ↔ K p = true := by
  refine ⟨h.1, fun p => ?_⟩
  rcases hk' with hk' | ⟨rfl, rfl⟩
  · obtain ⟨h1, h2⟩ := h.2 hk'
    rcases Int.lt_or_le p E[k] with hlt | hge
    · exact h2 p hlt
    · have := o.behind p (fun e he => by
        obtain ⟨i, hi, rfl⟩ := List.getElem_of_mem he
        rcases Nat.lt_or_ge i k with hik | hik
        · have := o.lt hik hk'; omega
        · have : i = k := by omega
          subst this; exact hge)
      rw [this]
      refine ⟨fun ⟨x, hx, hp⟩ => ?_, fun h => by cases h⟩
      have := h1 x hx; unfold InS at hp; omega
  · have := o.ahead p (fun e he => by cases he)
    simp [this, InL_nil]

/-- any byte of two lists, joined anyhow, told at their ends -/
theorem edges_of {l m : List Sp} {K : Int → Bool} {f : Bool → Bool → Bool} (hf : f false false = false) (A B : Int → Bool) (hA : ∀ p, A p = true ↔ InL l p) (hB : ∀ p, B p = true ↔ InL m p) (hK : ∀ p, K p = f (A p) (B p)) :
    EdgeOK K (endsL (l ++ m)) := by
  have hs := endsL_sorted (l ++ m)
  have mem : ∀ e ∈ endsL (l ++ m), ∃ x ∈ l ++ m, okS x ∧ (e = x.1 ∨ e = x.2) := fun e he => mem_endsL.1 he
  have beq : ∀ {a b : Bool} {P Q : Prop}, (a = true ↔ P) → (b = true ↔ Q) → (P ↔ Q) → a = b := fun {a b P Q} h1 h2 h3 => by
    cases a <;> cases b <;> simp_all
  have no : ∀ {a : Bool} {P : Prop}, (a = true ↔ P) → ¬ P → a = false := fun {a P} h1 h2 => by cases a <;> simp_all
  refine ⟨hs, fun e he => ?_, fun e he => ?_, fun k h p h1 h2 => ?_, fun p hp => ?_, fun p hp => ?_⟩
  · obtain ⟨x, _, hx, h | h⟩ := mem e he <;> unfold okS at hx <;> omega
  · obtain ⟨x, _, hx, h | h⟩ := mem e he <;> unfold okS at hx <;> omega
  · have gap : ∀ x ∈ l ++ m, okS x → ∀ y, (y = x.1 ∨ y = x.2) → y ≤ (endsL (l ++ m))[k] ∨ (endsL (l ++ m))[k + 1] ≤ y := fun x hx hok y hy => by
      have hm : y ∈ endsL (l ++ m) := mem_endsL.2 ⟨x, hx, hok, hy⟩
      obtain ⟨i, hi, rfl⟩ := List.getElem_of_mem hm
      have lt := List.pairwise_iff_getElem.1 hs
      rcases Nat.lt_trichotomy i k with h | h | h
      · have := lt i k hi (by omega) h; omega
      · subst h; omega
      · rcases Nat.lt_or_ge i (k + 2) with h' | h'
        · have : i = k + 1 := by omega
          subst this; omega
        · have := lt (k + 1) i (by omega) hi (by omega); omega
    rw [hK, hK, beq (hA p) (hA _) (InL_between h1 h2 fun x hx => gap x (List.mem_append_left _ hx)), beq (hB p) (hB _) (InL_between h1 h2 fun x hx => gap x (List.mem_append_right _ hx))]
  · have out : ∀ l', (∀ x ∈ l', x ∈ l ++ m) → ¬ InL l' p := fun l' hl ⟨x, hx, hin⟩ => by
      have hok : okS x := by unfold InS at hin; unfold okS; omega
      have := hp x.1 (mem_endsL.2 ⟨x, hl x hx, hok, .inl rfl⟩)
      unfold InS at hin; omega
    rw [hK, no (hA p) (out l fun x => List.mem_append_left _), no (hB p) (out m fun x => List.mem_append_right _), hf]
  · have out : ∀ l', (∀ x ∈ l', x ∈ l ++ m) → ¬ InL l' p := fun l' hl ⟨x, hx, hin⟩ => by
      have hok : okS x := by unfold InS at hin; unfold okS; omega
      have := hp x.2 (mem_endsL.2 ⟨x, hl x hx, hok, .inr rfl⟩)
      unfold InS at hin; omega
    rw [hK, no (hA p) (out l fun x => List.mem_append_left _), no (hB p) (out m fun x => List.mem_append_right _), hf]
end Go.Proofs.YthbjhpfgfpkppaaGreatDoor
