/-
  Plain mathematics of combine: walking along the edges of two sets.
-/
import Derived.Test.YthbjhpfgfpkppaaDoorKL
namespace Go.Proofs.YthbjhpfgfpkppaaDoor.Rg
open Go Go.RowKit

def edgeI (l : List Sp) (i : Nat) : Int := if h : i / 2 < l.length then (if i % 2 = 0 then l[i / 2].1 else l[i / 2].2) else 9223372036854775807
theorem edge_even {l : List Sp} {k : Nat} (h : k < l.length) : edgeI l (2 * k) = l[k].1 := by
  have e : 2 * k / 2 = k := by omega
  unfold edgeI
  simp only [e]
  rw [dif_pos h, if_pos (by omega)]
theorem edge_odd {l : List Sp} {k : Nat} (h : k < l.length) : edgeI l (2 * k + 1) = l[k].2 := by
  have e : (2 * k + 1) / 2 = k := by omega
  unfold edgeI
  simp only [e]
  rw [dif_pos h, if_neg (by omega)]
theorem edge_past {l : List Sp} {i : Nat} (h : 2 * l.length ≤ i) : edgeI l i = 9223372036854775807 := by
  unfold edgeI; rw [dif_neg (by omega)]
theorem edge_bd {l : List Sp} (hc : Canon l) {i : Nat} (h : i < 2 * l.length) : 0 ≤ edgeI l i ∧ edgeI l i ≤ 4611686018427387904 := by
  rcases Nat.mod_two_eq_zero_or_one i with e | e
  · obtain ⟨k, rfl⟩ : ∃ k, i = 2 * k := ⟨i / 2, by omega⟩
    have := Canon.at_ hc (i := k) (by omega)
    rw [edge_even (by omega)]; omega
  · obtain ⟨k, rfl⟩ : ∃ k, i = 2 * k + 1 := ⟨i / 2, by omega⟩
    have := Canon.at_ hc (i := k) (by omega)
    rw [edge_odd (by omega)]; omega
theorem edge_lt {l : List Sp} (hc : Canon l) {i : Nat} (h : i < 2 * l.length) : edgeI l i < edgeI l (i + 1) := by
  by_cases hn : i + 1 < 2 * l.length
  · rcases Nat.mod_two_eq_zero_or_one i with e | e
    · obtain ⟨k, rfl⟩ : ∃ k, i = 2 * k := ⟨i / 2, by omega⟩
      have := Canon.at_ hc (i := k) (by omega)
      rw [edge_even (by omega), edge_odd (by omega)]; omega
    · obtain ⟨k, rfl⟩ : ∃ k, i = 2 * k + 1 := ⟨i / 2, by omega⟩
      have := Canon.rise hc (i := k) (j := k + 1) (by omega) (by omega)
      rw [edge_odd (by omega), show 2 * k + 1 + 1 = 2 * (k + 1) by omega, edge_even (by omega)]; omega
  · have := edge_bd hc h
    rw [edge_past (l := l) (i := i + 1) (by omega)]; omega
theorem edge_max {l : List Sp} (hc : Canon l) (i : Nat) : edgeI l i ≤ 9223372036854775807 := by
  by_cases h : i < 2 * l.length
  · have := edge_bd hc h; omega
  · rw [edge_past (by omega)]; omega
theorem in_edge {l : List Sp} (hc : Canon l) {i : Nat} {p : Int} (hi : i ≤ 2 * l.length) (h1 : i = 0 ∨ edgeI l (i - 1) ≤ p) (h2 : p < edgeI l i) : anyHas l p = decide (i % 2 = 1) := by
  have key : InL l p ↔ i % 2 = 1 := by
    rcases Nat.mod_two_eq_zero_or_one i with e | e
    · obtain ⟨k, rfl⟩ : ∃ k, i = 2 * k := ⟨i / 2, by omega⟩
      refine ⟨fun ⟨x, hx, hk⟩ => ?_, fun h => by omega⟩
      obtain ⟨m, hm, rfl⟩ := List.getElem_of_mem hx
      unfold InS at hk
      exfalso
      by_cases hmk : m < k
      · rcases h1 with h1 | h1
        · omega
        · have e1 : 2 * k - 1 = 2 * (k - 1) + 1 := by omega
          rw [e1, edge_odd (by omega)] at h1
          by_cases e2 : m = k - 1
          · subst e2; omega
          · have a := Canon.rise hc (i := m) (j := k - 1) (by omega) (by omega)
            have b := Canon.at_ hc (i := k - 1) (by omega)
            omega
      · rw [edge_even (by omega)] at h2
        by_cases e2 : m = k
        · subst e2; omega
        · have a := Canon.rise hc (i := k) (j := m) (by omega) hm
          have b := Canon.at_ hc (i := k) (by omega)
          omega
    · obtain ⟨k, rfl⟩ : ∃ k, i = 2 * k + 1 := ⟨i / 2, by omega⟩
      refine ⟨fun _ => e, fun _ => ⟨l[k], List.getElem_mem (by omega), ?_⟩⟩
      have b := Canon.at_ hc (i := k) (by omega)
      rcases h1 with h1 | h1
      · omega
      · rw [show 2 * k + 1 - 1 = 2 * k by omega, edge_even (by omega)] at h1
        rw [edge_odd (by omega)] at h2
        unfold InS; omega
  rw [← anyHas_iff] at key
  cases h : anyHas l p <;> simp_all

/-- where combine stands -/
structure Cmb (f : Bool → Bool → Bool) (S T : List Sp) (i j : Nat) (out : List Sp) (fr : Int) (kp : Bool) (b : Int) : Prop where
  hb : b = min (edgeI S i) (edgeI T j)
  hi : i ≤ 2 * S.length
  hj : j ≤ 2 * T.length
  pi : i = 0 ∨ edgeI S (i - 1) < b
  pj : j = 0 ∨ edgeI T (j - 1) < b
  can : Canon out
  from_ : kp = true → 0 ≤ fr ∧ fr < b
  last : ∀ y ∈ out, y.2 < (if kp then fr else b)
  kept : kp = f (decide (i % 2 = 1)) (decide (j % 2 = 1))
  bytes : ∀ p, p < b → ((InL out p ∨ (kp = true ∧ fr ≤ p)) ↔ f (anyHas S p) (anyHas T p) = true)
  len : out.length ≤ i + j

theorem Cmb.start {f : Bool → Bool → Bool} (hf : f false false = false) {S T : List Sp} (hS : Canon S) (hT : Canon T) : Cmb f S T 0 0 [] 0 false (min (edgeI S 0) (edgeI T 0)) where
  hb := rfl
  hi := Nat.zero_le _
  hj := Nat.zero_le _
  pi := .inl rfl
  pj := .inl rfl
  can := Canon.nil
  from_ := fun h => by cases h
  last := fun y h => by cases h
  kept := by simp [hf]
  bytes := fun p hp => by
    rw [in_edge hS (i := 0) (Nat.zero_le _) (.inl rfl) (by omega), in_edge hT (i := 0) (Nat.zero_le _) (.inl rfl) (by omega)]
    simp [InL_nil, hf]
  len := Nat.le_refl _

theorem Cmb.done {f : Bool → Bool → Bool} (hf : f false false = false) {S T : List Sp} {i j : Nat} {out : List Sp} {fr b : Int} {kp : Bool} (h : Cmb f S T i j out fr kp b) (hi : ¬ i < 2 * S.length) (hj : ¬ j < 2 * T.length) :
    Canon out ∧ ∀ p, InL out p ↔ f (anyHas S p) (anyHas T p) = true := by
  have ei : i = 2 * S.length := by have := h.hi; omega
  have ej : j = 2 * T.length := by have := h.hj; omega
  have hk : kp = false := by
    have k := h.kept
    have d1 : decide (i % 2 = 1) = false := by simp; omega
    have d2 : decide (j % 2 = 1) = false := by simp; omega
    rw [d1, d2, hf] at k; exact k
  have hb : b = 9223372036854775807 := by rw [h.hb, edge_past (by omega), edge_past (by omega)]; rfl
  refine ⟨h.can, fun p => ?_⟩
  by_cases hp : p < b
  · have := h.bytes p hp
    rw [hk] at this
    simpa using this
  · have no : ∀ {l : List Sp}, ¬ InL l p := fun ⟨x, _, k⟩ => by unfold InS at k; omega
    have n1 : anyHas S p = false := by cases e : anyHas S p with
      | false => rfl
      | true => exact absurd (anyHas_iff.1 e) no
    have n2 : anyHas T p = false := by cases e : anyHas T p with
      | false => rfl
      | true => exact absurd (anyHas_iff.1 e) no
    rw [n1, n2, hf]
    simp [no]

theorem Cmb.step {f : Bool → Bool → Bool} {S T : List Sp} (hS : Canon S) (hT : Canon T) {i j i' j' : Nat} {out : List Sp} {fr b : Int} {kp ks : Bool} (h : Cmb f S T i j out fr kp b) (hgo : i < 2 * S.length ∨ j < 2 * T.length)
    (hi' : i' = if edgeI S i = b then i + 1 else i) (hj' : j' = if edgeI T j = b then j + 1 else j) (hks : ks = f (decide (i' % 2 = 1)) (decide (j' % 2 = 1))) :
    Cmb f S T i' j' (if !ks && kp then out ++ [(fr, b)] else out) (if ks && !kp then b else fr) ks (min (edgeI S i') (edgeI T j')) ∧ 0 ≤ b ∧ b ≤ 4611686018427387904 ∧ i + j < i' + j' := by
  have hb := h.hb
  have mS := edge_max hS i
  have mT := edge_max hT j
  have bb : 0 ≤ b ∧ b ≤ 4611686018427387904 := by
    have n1 : i < 2 * S.length → 0 ≤ edgeI S i ∧ edgeI S i ≤ 4611686018427387904 := edge_bd hS
    have n2 : j < 2 * T.length → 0 ≤ edgeI T j ∧ edgeI T j ≤ 4611686018427387904 := edge_bd hT
    have m1 : ¬ i < 2 * S.length → edgeI S i = 9223372036854775807 := fun k => edge_past (by omega)
    have m2 : ¬ j < 2 * T.length → edgeI T j = 9223372036854775807 := fun k => edge_past (by omega)
    by_cases k1 : i < 2 * S.length <;> by_cases k2 : j < 2 * T.length
    · have := n1 k1; have := n2 k2; omega
    · have := n1 k1; have := m2 k2; omega
    · have := m1 k1; have := n2 k2; omega
    · omega
  have A1 : b < edgeI S i' ∧ i' ≤ 2 * S.length ∧ (i' = 0 ∨ edgeI S (i' - 1) ≤ b) ∧ i ≤ i' ∧ (edgeI S i = b → i' = i + 1) := by
    by_cases e : edgeI S i = b
    · rw [if_pos e] at hi'
      have hl : i < 2 * S.length := by
        by_cases k : i < 2 * S.length
        · exact k
        · have := edge_past (l := S) (i := i) (by omega); omega
      have := edge_lt hS hl
      subst hi'
      exact ⟨by omega, by omega, .inr (by rw [Nat.add_sub_cancel]; omega), by omega, fun _ => rfl⟩
    · rw [if_neg e] at hi'
      subst hi'
      exact ⟨by omega, h.hi, h.pi.imp id (by omega), Nat.le_refl _, fun k => absurd k e⟩
  have A2 : b < edgeI T j' ∧ j' ≤ 2 * T.length ∧ (j' = 0 ∨ edgeI T (j' - 1) ≤ b) ∧ j ≤ j' ∧ (edgeI T j = b → j' = j + 1) := by
    by_cases e : edgeI T j = b
    · rw [if_pos e] at hj'
      have hl : j < 2 * T.length := by
        by_cases k : j < 2 * T.length
        · exact k
        · have := edge_past (l := T) (i := j) (by omega); omega
      have := edge_lt hT hl
      subst hj'
      exact ⟨by omega, by omega, .inr (by rw [Nat.add_sub_cancel]; omega), by omega, fun _ => rfl⟩
    · rw [if_neg e] at hj'
      subst hj'
      exact ⟨by omega, h.hj, h.pj.imp id (by omega), Nat.le_refl _, fun k => absurd k e⟩
  clear hi' hj'
  have hmore : i + j < i' + j' := by
    have : edgeI S i = b ∨ edgeI T j = b := by omega
    rcases this with e | e
    · have := A1.2.2.2.2 e; omega
    · have := A2.2.2.2.2 e; omega
  have hb' : b < min (edgeI S i') (edgeI T j') := by omega
  have far : ∀ p, b ≤ p → p < min (edgeI S i') (edgeI T j') → f (anyHas S p) (anyHas T p) = ks := fun p h1 h2 => by
    rw [in_edge hS A1.2.1 (A1.2.2.1.imp id (by omega)) (by omega), in_edge hT A2.2.1 (A2.2.2.1.imp id (by omega)) (by omega), hks]
  have lastb : ∀ y ∈ out, y.2 < b := fun y hy => by
    have a := h.last y hy
    cases hk : kp with
    | false => rw [hk] at a; simpa using a
    | true => rw [hk] at a; have := h.from_ hk; simp at a; omega
  have noout : ∀ p, b ≤ p → ¬ InL out p := fun p hp ⟨x, hx, k⟩ => by have := lastb x hx; unfold InS at k; omega
  refine ⟨?_, bb.1, bb.2, hmore⟩
  cases ks <;> cases hk : kp
  all_goals simp only [Bool.not_true, Bool.not_false, Bool.and_true, Bool.and_false, if_true, if_false, Bool.false_eq_true]
  · subst hk
    refine ⟨rfl, A1.2.1, A2.2.1, A1.2.2.1.imp id (by omega), A2.2.2.1.imp id (by omega), h.can, fun k => (by cases k), fun y hy => (by have := lastb y hy; simp; omega), hks, fun p hp => ?_, (by have := h.len; omega)⟩
    by_cases k : p < b
    · exact h.bytes p k
    · rw [far p (by omega) hp]; simp [noout p (by omega)]
  · subst hk
    have hfr := h.from_ rfl
    have hl : ∀ y ∈ out, y.2 < fr := fun y hy => by simpa using h.last y hy
    refine ⟨rfl, A1.2.1, A2.2.1, A1.2.2.1.imp id (by omega), A2.2.2.1.imp id (by omega), h.can.snoc ⟨hfr.1, hfr.2, bb.2⟩ hl, fun k => (by cases k), fun y hy => ?_, hks, fun p hp => ?_, (by have := h.len; simp; omega)⟩
    · rcases List.mem_append.1 hy with hy | hy
      · have := lastb y hy; simp; omega
      · simp at hy; subst hy; simp; omega
    · rw [InL_append, InL_one]
      by_cases k : p < b
      · have := h.bytes p k
        rw [← this]
        have e : InS (fr, b) p ↔ fr ≤ p := by unfold InS; simp only; omega
        rw [e]; simp
      · rw [far p (by omega) hp]
        have e : ¬ InS (fr, b) p := by unfold InS; simp only; omega
        simp [noout p (by omega), e]
  · subst hk
    refine ⟨rfl, A1.2.1, A2.2.1, A1.2.2.1.imp id (by omega), A2.2.2.1.imp id (by omega), h.can, fun _ => ⟨bb.1, hb'⟩, fun y hy => (by have := lastb y hy; simpa using this), hks, fun p hp => ?_, (by have := h.len; omega)⟩
    by_cases k : p < b
    · have := h.bytes p k
      rw [← this]
      have e : ¬ b ≤ p := by omega
      simp [e]
    · rw [far p (by omega) hp]
      have e : b ≤ p := by omega
      simp [e]
  · subst hk
    have hfr := h.from_ rfl
    refine ⟨rfl, A1.2.1, A2.2.1, A1.2.2.1.imp id (by omega), A2.2.2.1.imp id (by omega), h.can, fun _ => ⟨hfr.1, by omega⟩, h.last, hks, fun p hp => ?_, (by have := h.len; omega)⟩
    by_cases k : p < b
    · exact h.bytes p k
    · rw [far p (by omega) hp]
      have e : fr ≤ p := by omega
      simp [e]
end Go.Proofs.YthbjhpfgfpkppaaDoor.Rg
