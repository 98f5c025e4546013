/-
  The reference's Number by a contract.
-/
import Derived.Lib.Hide
import Derived.Test.YthbjhpfgfpkppaaGreatDoorRef01A
import Derived.Test.YthbjhpfgfpkppaaGreatDoorSpanMath
namespace Go.Proofs.YthbjhpfgfpkppaaGreatDoor
open Go Go.RowKit

/-- what the digits of a list come to behind those before; -1: no numeral up to 2^62 -/
def numLoop (v : Int) : List UInt8 → Int
  | [] => v
  | x :: l => if ((x.toNat : Int) - 48 < 0 ∨ 9 < (x.toNat : Int) - 48) ∨ (4611686018427387904 - ((x.toNat : Int) - 48)) / 10 < v then -1 else numLoop (10 * v + ((x.toNat : Int) - 48)) l
def numL (l : List UInt8) : Int := if l = [] ∨ 19 < l.length ∨ (l.head? = some 48 ∧ 1 < l.length) then -1 else numLoop 0 l

theorem numLoop_snoc (c : UInt8) (hc : isDig c) : ∀ (l : List UInt8) (v u : Int), numLoop v l = u → 0 ≤ u → 10 * u + ((c.toNat : Int) - 48) ≤ 4611686018427387904 → numLoop v (l ++ [c]) = 10 * u + ((c.toNat : Int) - 48)
  | [], v, u, h, h0, h1 => by
    simp only [numLoop] at h
    subst h
    simp only [List.nil_append, numLoop]
    unfold isDig at hc
    rw [if_neg (by omega)]
  | x :: l, v, u, h, h0, h1 => by
    simp only [List.cons_append, numLoop] at h ⊢
    split at h
    · omega
    · rename_i hx
      rw [if_neg hx]
      exact numLoop_snoc c hc l _ u h h0 h1
theorem numLoop_dec (u : Nat) (h : u ≤ 4611686018427387904) : numLoop 0 (Lib.decDigits u) = u := by
  induction u using Nat.strongRecOn with
  | _ u ih =>
    by_cases h9 : u < 10
    · rw [Lib.decDigits, dif_pos h9]
      have hd := dig_of h9
      simp only [numLoop, hd]
      rw [if_neg (by omega)]; omega
    · rw [Lib.decDigits, dif_neg h9]
      have hd := dig_of (u := u % 10) (by omega)
      have := numLoop_snoc (UInt8.ofNat (48 + u % 10)) (by unfold isDig; rw [hd]; omega) (Lib.decDigits (u / 10)) 0 ((u / 10 : Nat) : Int) (ih (u / 10) (by omega) (by omega)) (by omega) (by rw [hd]; omega)
      rw [this, hd]; omega
theorem decDigits_head (u : Nat) (h : 1 ≤ u) : (Lib.decDigits u).head? ≠ some 48 := by
  induction u using Nat.strongRecOn with
  | _ u ih =>
    by_cases h9 : u < 10
    · rw [Lib.decDigits, dif_pos h9]
      intro e
      simp only [List.head?_cons, Option.some.injEq] at e
      have hd := dig_of h9
      rw [e] at hd
      have : (48 : UInt8).toNat = 48 := rfl
      omega
    · rw [Lib.decDigits, dif_neg h9]
      have k := ih (u / 10) (by omega) (by omega)
      cases hl : Lib.decDigits (u / 10) with
      | nil => exact absurd hl (decDigits_ne _)
      | cons x r => rw [hl] at k; simpa using k
theorem nDigits_19 {u : Nat} (h : u ≤ 4611686018427387904) : (Lib.decDigits u).length ≤ 19 := by
  rw [Lib.decDigits_length]
  by_cases h0 : u = 0
  · subst h0; rw [Lib.nDigits_small (by omega)]; omega
  · have hp := Lib.decDigits_length u
    rcases Nat.lt_or_ge 19 (Lib.nDigits u) with q | q
    · exfalso
      have : ∀ (k v : Nat), v < 10 ^ (k + 1) → Lib.nDigits v ≤ k + 1 := by
        intro k
        induction k with
        | zero => intro v hv; rw [Lib.nDigits_small (by simpa using hv)]; omega
        | succ k ihk =>
          intro v hv
          by_cases h9 : v < 10
          · rw [Lib.nDigits_small h9]; omega
          · rw [Lib.nDigits_big h9]
            have := ihk (v / 10) (by rw [Nat.pow_succ] at hv; omega)
            omega
      have := this 18 u (by omega)
      omega
    · exact q
theorem numL_itoa {a : Int} (h0 : 0 ≤ a) (h1 : a ≤ 4611686018427387904) : numL (Lib.itoa a) = a := by
  obtain ⟨u, rfl⟩ : ∃ u : Nat, a = u := ⟨a.toNat, by omega⟩
  rw [itoa_dec h0, show ((u : Int).toNat) = u from rfl]
  unfold numL
  rw [if_neg, numLoop_dec u (by omega)]
  rintro (q | q | ⟨q, r⟩)
  · exact decDigits_ne u q
  · have := nDigits_19 (u := u) (by omega); omega
  · by_cases h : 1 ≤ u
    · exact decDigits_head u h q
    · have : u = 0 := by omega
      subst this
      rw [Lib.decDigits_one (by omega)] at r
      simp at r
theorem numLoop_bd : ∀ (l : List UInt8) (v : Int), 0 ≤ v → v ≤ 4611686018427387904 → -1 ≤ numLoop v l ∧ numLoop v l ≤ 4611686018427387904
  | [], v, h0, h1 => by simp only [numLoop]; omega
  | x :: l, v, h0, h1 => by
    simp only [numLoop]
    split
    · omega
    · rename_i h
      exact numLoop_bd l _ (by omega) (by omega)
theorem numL_bd (l : List UInt8) : -1 ≤ numL l ∧ numL l ≤ 4611686018427387904 := by
  unfold numL
  split
  · omega
  · exact numLoop_bd l 0 (by omega) (by omega)
theorem drop_at (s : ByteArray) (k : Nat) (h : k < s.size) : s.data.toList.drop k = s[k] :: s.data.toList.drop (k + 1) := by
  rw [List.drop_eq_getElem_cons (by simpa using h)]; rfl
theorem size_toList' (s : ByteArray) : s.data.toList.length = s.size := by show s.data.toList.length = s.data.size; simp

set_option maxHeartbeats 1600000 in
theorem number_any (s : ByteArray) (w : World) (hs : s.size ≤ 1000000) :
    Calls Tryz.prog 49 #[.string s] w fun e w' => e = .returned (.int .i64 (numL s.data.toList)) ∧ w' = w := by
  have hsz := size_toList' s
  by_cases h0 : s.size = 0
  · have HF := Lib.hid (show (-1 : Int) = numL s.data.toList from by unfold numL; rw [if_pos (.inl (by rw [← List.length_eq_zero_iff, hsz]; exact h0))])
    clear hsz
    go_enter Tryz.func49, Tryz.ntmps49
    go_wp2_with fail
    go_ret
    exact ⟨ret_int HF.out, rfl⟩
  · by_cases h1 : 19 < s.size
    · have HF := Lib.hid (show (-1 : Int) = numL s.data.toList from by unfold numL; rw [if_pos (.inr (.inl (by rw [hsz]; exact h1)))])
      clear hsz
      go_enter Tryz.func49, Tryz.ntmps49
      go_wp2_with fail
      go_ret
      exact ⟨ret_int HF.out, rfl⟩
    · have hp : 0 < s.size := by omega
      have hh : s.data.toList.head? = some (s[0]'hp) := by have e := drop_at s 0 hp; rw [List.drop_zero] at e; rw [e]; rfl
      have y0 : (0 : Int) ≤ ((s[0]'hp).toNat : Int) := by omega
      have y1 : ((s[0]'hp).toNat : Int) ≤ 255 := by have := (s[0]'hp).toNat_lt; omega
      by_cases h2 : (s[0]'hp).toNat = 48
      · have e48 : (s[0]'hp) = 48 := by apply UInt8.toNat_inj.1; rw [h2]; rfl
        have b1 : (((s[0]'hp).toNat : Int) == 48) = true := by rw [h2]; rfl
        by_cases h3 : 1 < s.size
        · have HF := Lib.hid (show (-1 : Int) = numL s.data.toList from by unfold numL; rw [if_pos (.inr (.inr ⟨by rw [hh, e48], by rw [hsz]; exact h3⟩))])
          clear hsz hh e48 h2
          go_enter Tryz.func49, Tryz.ntmps49
          go_wp2_with fail
          go_ret
          exact ⟨ret_int HF.out, rfl⟩
        · have HL := Lib.hid (show numL s.data.toList = numLoop 0 s.data.toList from by
            unfold numL; rw [if_neg]; rintro (q | q | q)
            · rw [← List.length_eq_zero_iff, hsz] at q; omega
            · rw [hsz] at q; omega
            · rw [hsz] at q; omega)
          clear hsz hh e48 h2
          have q0 : ((s.size : Int) == 0) = false := by rw [beq_eq_false_iff_ne]; omega
          have q1 : decide (19 < (s.size : Int)) = false := by rw [decide_eq_false_iff_not]; omega
          have q2 : decide (1 < (s.size : Int)) = false := by rw [decide_eq_false_iff_not]; omega
          go_enter Tryz.func49, Tryz.ntmps49
          go_wp2_with fail
          go_loop [3, 4] (fun n i => ∃ k : Nat, k ≤ s.size ∧ i = .int .i64 k ∧ ∃ v : Int, n = .int .i64 v ∧ 0 ≤ v ∧ v ≤ 4611686018427387904 ∧ Hid (numLoop v (s.data.toList.drop k) = numLoop 0 s.data.toList)) (fun _ i => s.size - (intOf i).toNat)
          case atStart => exact ⟨0, Nat.zero_le _, rfl, 0, rfl, by omega, by omega, rfl⟩
          case round =>
            obtain ⟨k, hk, rfl, v, rfl, v0, v1, HV⟩ := hrel
            by_cases hlt : k < s.size
            · have HD := Lib.hid (drop_at s k hlt)
              have x0 : (0 : Int) ≤ (s[k].toNat : Int) := by omega
              have x1 : (s[k].toNat : Int) ≤ 255 := by have := s[k].toNat_lt; omega
              have HS : Hid (numLoop v (s.data.toList.drop k) = if ((s[k].toNat : Int) - 48 < 0 ∨ 9 < (s[k].toNat : Int) - 48) ∨ (4611686018427387904 - ((s[k].toNat : Int) - 48)) / 10 < v then -1 else numLoop (10 * v + ((s[k].toNat : Int) - 48)) (s.data.toList.drop (k + 1))) := by
                unfold Hid; rw [HD.out]; rfl
              by_cases ha : (s[k].toNat : Int) < 48
              · have HX : Hid ((-1 : Int) = numL s.data.toList) := by
                  unfold Hid; rw [HL.out, ← HV.out, HS.out, if_pos (.inl (.inl (by omega)))]
                go_wp2_with (go_at_call 45; refine (end_any _).mono ?_; rintro e w2 ⟨rfl, rfl⟩)
                go_ret
                exact ⟨ret_int HX.out, rfl⟩
              · by_cases hb : 57 < (s[k].toNat : Int)
                · have HX : Hid ((-1 : Int) = numL s.data.toList) := by
                    unfold Hid; rw [HL.out, ← HV.out, HS.out, if_pos (.inl (.inr (by omega)))]
                  go_wp2_with (go_at_call 45; refine (end_any _).mono ?_; rintro e w2 ⟨rfl, rfl⟩)
                  go_ret
                  exact ⟨ret_int HX.out, rfl⟩
                · by_cases hc : (4611686018427387904 - ((s[k].toNat : Int) - 48)) / 10 < v
                  · have HX : Hid ((-1 : Int) = numL s.data.toList) := by
                      unfold Hid; rw [HL.out, ← HV.out, HS.out, if_pos (.inr hc)]
                    go_wp2_with (go_at_call 45; refine (end_any _).mono ?_; rintro e w2 ⟨rfl, rfl⟩)
                    go_ret
                    exact ⟨ret_int HX.out, rfl⟩
                  · have HX : Hid (numLoop (10 * v + ((s[k].toNat : Int) - 48)) (s.data.toList.drop (k + 1)) = numLoop 0 s.data.toList) := by
                      unfold Hid; rw [← HV.out, HS.out, if_neg (by omega)]
                    go_wp2_with (go_at_call 45; refine (end_any _).mono ?_; rintro e w2 ⟨rfl, rfl⟩)
                    go_round
                    case rel => exact ⟨k + 1, by omega, by go_num, _, rfl, by omega, by omega, HX⟩
                    case measure => simp [intOf]; omega
            · have HX : Hid (v = numL s.data.toList) := by
                unfold Hid; rw [HL.out, ← HV.out, List.drop_eq_nil_of_le (by rw [size_toList']; omega)]; rfl
              go_wp2_with (go_at_call 45; refine (end_any _).mono ?_; rintro e w2 ⟨rfl, rfl⟩)
              go_ret
              exact ⟨ret_int HX.out, rfl⟩
      · have b1 : (((s[0]'hp).toNat : Int) == 48) = false := by rw [beq_eq_false_iff_ne]; omega
        have HL := Lib.hid (show numL s.data.toList = numLoop 0 s.data.toList from by
          unfold numL; rw [if_neg]; rintro (q | q | ⟨q, _⟩)
          · rw [← List.length_eq_zero_iff, hsz] at q; omega
          · rw [hsz] at q; omega
          · rw [hh, Option.some.injEq] at q; rw [q] at h2; exact h2 rfl)
        clear hsz hh h2
        have q0 : ((s.size : Int) == 0) = false := by rw [beq_eq_false_iff_ne]; omega
        have q1 : decide (19 < (s.size : Int)) = false := by rw [decide_eq_false_iff_not]; omega
        go_enter Tryz.func49, Tryz.ntmps49
        go_wp2_with fail
        go_loop [3, 4] (fun n i => ∃ k : Nat, k ≤ s.size ∧ i = .int .i64 k ∧ ∃ v : Int, n = .int .i64 v ∧ 0 ≤ v ∧ v ≤ 4611686018427387904 ∧ Hid (numLoop v (s.data.toList.drop k) = numLoop 0 s.data.toList)) (fun _ i => s.size - (intOf i).toNat)
        case atStart => exact ⟨0, Nat.zero_le _, rfl, 0, rfl, by omega, by omega, rfl⟩
        case round =>
          obtain ⟨k, hk, rfl, v, rfl, v0, v1, HV⟩ := hrel
          by_cases hlt : k < s.size
          · have HD := Lib.hid (drop_at s k hlt)
            have x0 : (0 : Int) ≤ (s[k].toNat : Int) := by omega
            have x1 : (s[k].toNat : Int) ≤ 255 := by have := s[k].toNat_lt; omega
            have HS : Hid (numLoop v (s.data.toList.drop k) = if ((s[k].toNat : Int) - 48 < 0 ∨ 9 < (s[k].toNat : Int) - 48) ∨ (4611686018427387904 - ((s[k].toNat : Int) - 48)) / 10 < v then -1 else numLoop (10 * v + ((s[k].toNat : Int) - 48)) (s.data.toList.drop (k + 1))) := by
              unfold Hid; rw [HD.out]; rfl
            by_cases ha : (s[k].toNat : Int) < 48
            · have HX : Hid ((-1 : Int) = numL s.data.toList) := by
                unfold Hid; rw [HL.out, ← HV.out, HS.out, if_pos (.inl (.inl (by omega)))]
              go_wp2_with (go_at_call 45; refine (end_any _).mono ?_; rintro e w2 ⟨rfl, rfl⟩)
              go_ret
              exact ⟨ret_int HX.out, rfl⟩
            · by_cases hb : 57 < (s[k].toNat : Int)
              · have HX : Hid ((-1 : Int) = numL s.data.toList) := by
                  unfold Hid; rw [HL.out, ← HV.out, HS.out, if_pos (.inl (.inr (by omega)))]
                go_wp2_with (go_at_call 45; refine (end_any _).mono ?_; rintro e w2 ⟨rfl, rfl⟩)
                go_ret
                exact ⟨ret_int HX.out, rfl⟩
              · by_cases hc : (4611686018427387904 - ((s[k].toNat : Int) - 48)) / 10 < v
                · have HX : Hid ((-1 : Int) = numL s.data.toList) := by
                    unfold Hid; rw [HL.out, ← HV.out, HS.out, if_pos (.inr hc)]
                  go_wp2_with (go_at_call 45; refine (end_any _).mono ?_; rintro e w2 ⟨rfl, rfl⟩)
                  go_ret
                  exact ⟨ret_int HX.out, rfl⟩
                · have HX : Hid (numLoop (10 * v + ((s[k].toNat : Int) - 48)) (s.data.toList.drop (k + 1)) = numLoop 0 s.data.toList) := by
                    unfold Hid; rw [← HV.out, HS.out, if_neg (by omega)]
                  go_wp2_with (go_at_call 45; refine (end_any _).mono ?_; rintro e w2 ⟨rfl, rfl⟩)
                  go_round
                  case rel => exact ⟨k + 1, by omega, by go_num, _, rfl, by omega, by omega, HX⟩
                  case measure => simp [intOf]; omega
          · have HX : Hid (v = numL s.data.toList) := by
              unfold Hid; rw [HL.out, ← HV.out, List.drop_eq_nil_of_le (by rw [size_toList']; omega)]; rfl
            go_wp2_with (go_at_call 45; refine (end_any _).mono ?_; rintro e w2 ⟨rfl, rfl⟩)
            go_ret
            exact ⟨ret_int HX.out, rfl⟩
end Go.Proofs.YthbjhpfgfpkppaaGreatDoor
