/-
  Plain facts on a span's text: its numerals are read back as they were; no program in this text.
-/
import Derived.Test.YthbjhpfgfpkppaaGreatDoorText
import Derived.Lib.ParseIntB
import Derived.Lib.IndexMore
namespace Go.Proofs.YthbjhpfgfpkppaaGreatDoor
open Go Go.RowKit

def isDig (x : UInt8) : Prop := 48 ≤ x.toNat ∧ x.toNat ≤ 57
theorem dig_of {u : Nat} (h : u < 10) : (UInt8.ofNat (48 + u)).toNat = 48 + u := by
  rw [UInt8.toNat_ofNat']; omega
theorem decDigits_dig (u : Nat) : ∀ x ∈ Lib.decDigits u, isDig x := by
  induction u using Nat.strongRecOn with
  | _ u ih =>
    intro x hx
    by_cases h : u < 10
    · rw [Lib.decDigits, dif_pos h] at hx
      simp only [List.mem_singleton] at hx
      subst hx
      unfold isDig
      rw [dig_of h]; omega
    · rw [Lib.decDigits, dif_neg h, List.mem_append] at hx
      rcases hx with hx | hx
      · exact ih (u / 10) (by omega) x hx
      · simp only [List.mem_singleton] at hx
        subst hx
        unfold isDig
        rw [dig_of (by omega)]; omega
theorem decDigits_ne (u : Nat) : Lib.decDigits u ≠ [] := by
  rw [Lib.decDigits]; split <;> simp
theorem itoa_dec {a : Int} (h : 0 ≤ a) : Lib.itoa a = Lib.decDigits a.toNat := by
  unfold Lib.itoa; rw [if_neg (by omega)]
theorem itoa_dig {a : Int} (h : 0 ≤ a) : ∀ x ∈ Lib.itoa a, isDig x := by rw [itoa_dec h]; exact decDigits_dig _
theorem itoa_ne {a : Int} (h : 0 ≤ a) : Lib.itoa a ≠ [] := by rw [itoa_dec h]; exact decDigits_ne _

theorem index_dash : ∀ (d r : List UInt8), (∀ x ∈ d, isDig x) → Lib.index (d ++ 45 :: r) [45] = d.length
  | [], r, _ => by simp [Lib.index]
  | x :: d, r, h => by
    have hx := h x (by simp)
    have ne : (45 : UInt8) ≠ x := by intro e; subst e; unfold isDig at hx; simp at hx
    have ih := index_dash d r (fun y hy => h y (by simp [hy]))
    have hp : ([45] : List UInt8).isPrefixOf (x :: (d ++ 45 :: r)) = false := by simp [List.isPrefixOf, ne]
    rw [List.cons_append]
    unfold Lib.index
    rw [hp, ih]
    have h1 : ((d.length : Int) == -1) = false := by rw [beq_eq_false_iff_ne]; omega
    simp [h1]
theorem cut_dash (d r : List UInt8) (h : ∀ x ∈ d, isDig x) : Lib.cut (d ++ 45 :: r) [45] = (d, r, true) := by
  unfold Lib.cut
  rw [index_dash d r h]
  simp

theorem parseM_snoc (M : Nat) (c : UInt8) (hc : isDig c) : ∀ (l : List UInt8) (acc v : Nat), Lib.parseUintM M acc l = .ok v → v < 1844674407370955162 → v * 10 + (c.toNat - 48) ≤ M → Lib.parseUintM M acc (l ++ [c]) = .ok (v * 10 + (c.toNat - 48))
  | [], acc, v, h, h1, h2 => by
    simp only [Lib.parseUintM, Lib.NumEnd.ok.injEq] at h
    subst h
    simp only [List.nil_append, Lib.parseUintM]
    unfold isDig at hc
    rw [if_pos hc, if_neg (by omega), if_neg (by omega)]
  | x :: l, acc, v, h, h1, h2 => by
    simp only [List.cons_append, Lib.parseUintM] at h ⊢
    split at h
    · rename_i hx
      rw [if_pos hx]
      split at h
      · cases h
      · rename_i ha
        rw [if_neg ha]
        split at h
        · cases h
        · rename_i hb
          rw [if_neg hb]
          exact parseM_snoc M c hc l _ v h h1 h2
    · cases h
theorem parseM_dec (M : Nat) (u : Nat) (h : u ≤ M) (hM : M < 18446744073709551616) : Lib.parseUintM M 0 (Lib.decDigits u) = .ok u := by
  induction u using Nat.strongRecOn with
  | _ u ih =>
    by_cases h9 : u < 10
    · rw [Lib.decDigits, dif_pos h9]
      have hd := dig_of h9
      simp only [Lib.parseUintM, hd]
      rw [if_pos (by omega), if_neg (by omega), if_neg (by omega)]
      congr 1; omega
    · rw [Lib.decDigits, dif_neg h9]
      have hd := dig_of (u := u % 10) (by omega)
      have := parseM_snoc M (UInt8.ofNat (48 + u % 10)) (by unfold isDig; rw [hd]; omega) (Lib.decDigits (u / 10)) 0 (u / 10) (ih (u / 10) (by omega) (by omega)) (by omega) (by rw [hd]; omega)
      rw [this, hd]
      congr 1; omega
theorem parse_itoa {a : Int} (h0 : 0 ≤ a) (h1 : a ≤ 4611686018427387904) : Lib.parseIntB 64 (Lib.itoa a) = .ok a := by
  obtain ⟨u, rfl⟩ : ∃ u : Nat, a = u := ⟨a.toNat, by omega⟩
  rw [itoa_dec h0]
  rw [show ((u : Int).toNat) = u from rfl]
  have hm := parseM_dec 18446744073709551615 u (by omega) (by omega)
  have hne := decDigits_ne u
  have hdg := decDigits_dig u
  generalize Lib.decDigits u = l at hm hne hdg
  cases l with
  | nil => exact absurd rfl hne
  | cons c r =>
    have hc := hdg c (by simp)
    unfold isDig at hc
    unfold Lib.parseIntB
    simp only
    rw [if_neg (by omega)]
    unfold Lib.parseUintB
    rw [if_neg (by simp), show 2 ^ 64 - 1 = 18446744073709551615 from by decide, hm]
    simp only
    rw [if_neg (by omega), if_neg (by omega), if_neg (by omega)]
theorem itoa_inj {a b : Int} (h0 : 0 ≤ a) (h1 : a ≤ 4611686018427387904) (k0 : 0 ≤ b) (k1 : b ≤ 4611686018427387904) (h : Lib.itoa a = Lib.itoa b) : a = b := by
  have e := parse_itoa h0 h1
  rw [h, parse_itoa k0 k1] at e
  injection e with e
  exact e.symm
theorem parseInt_bounds {l : List UInt8} {v : Int} (h : Lib.parseIntB 64 l = .ok v) : l ≠ [] := by
  intro e; subst e; unfold Lib.parseIntB at h; cases h

/-- behind the dash -/
def tailL (a b : Int) : List UInt8 := if opB a b then [] else Lib.itoa b
theorem textL_eq {a b : Int} (h : rtB a b = true) : textL a b = Lib.itoa a ++ 45 :: tailL a b := by unfold textL tailL; rw [if_pos h]
theorem cut_text {a b : Int} (h : rtB a b = true) : Lib.cut (textL a b) [45] = (Lib.itoa a, tailL a b, true) := by
  rw [textL_eq h]; exact cut_dash _ _ (itoa_dig (rtB_t h).1)
theorem opB_f {a b : Int} (h : opB a b = true) : b = 4611686018427387904 := by simp [opB] at h; exact h.1
theorem textL_inj {a b c d : Int} (h : rtB a b = true) (k : rtB c d = true) (e : textL a b = textL c d) : a = c ∧ b = d := by
  have e1 := cut_text h
  rw [e, cut_text k] at e1
  obtain ⟨p0, p1, p2⟩ := rtB_t h
  obtain ⟨q0, q1, q2⟩ := rtB_t k
  simp only [Prod.mk.injEq, and_true] at e1
  have ea := itoa_inj (by omega) (by omega) p0 (by omega) e1.1
  refine ⟨ea.symm, ?_⟩
  have et := e1.2
  unfold tailL at et
  cases ho : opB a b with
  | true =>
    cases hq : opB c d with
    | true => rw [opB_f ho, opB_f hq]
    | false =>
      rw [ho, hq] at et
      simp only [if_true, Bool.false_eq_true, if_false] at et
      exact absurd et (itoa_ne (by omega))
  | false =>
    cases hq : opB c d with
    | true =>
      rw [ho, hq] at et
      simp only [if_true, Bool.false_eq_true, if_false] at et
      exact absurd et.symm (itoa_ne (by omega))
    | false =>
      rw [ho, hq] at et
      simp only [Bool.false_eq_true, if_false] at et
      exact (itoa_inj (by omega) q2 (by omega) p2 et).symm
theorem tailL_nil {a b : Int} (h : rtB a b = true) : tailL a b = [] ↔ opB a b = true := by
  unfold tailL
  cases ho : opB a b with
  | true => simp
  | false => simp [itoa_ne (a := b) (by have := rtB_t h; omega)]
theorem textL_len {a b : Int} : (textL a b).length ≤ 43 := by
  unfold textL
  cases hr : rtB a b with
  | false => simp
  | true =>
    have h := rtB_t hr
    have := itoa_len (a := a) (by omega) (by omega)
    have := itoa_len (a := b) (by omega) (by omega)
    cases opB a b <;> simp <;> omega
theorem textL_ne {a b : Int} (h : rtB a b = true) : textL a b ≠ [] := by rw [textL_eq h]; simp
end Go.Proofs.YthbjhpfgfpkppaaGreatDoor
