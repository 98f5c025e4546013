/-
  Which tags conditions may have, by the program.
-/
import Derived.Test.YtomcoacndppkcaaGreatDoorUB
namespace Go.Proofs.YtomcoacndppkcaaGreatDoor
open Go Go.RowKit
open T (Tg TgAt okS)

def okL (l : List Tg) : Bool := l.all fun t => okS t.1
theorem okL_take {l : List Tg} {k : Nat} (h : k < l.length) : okL (l.take (k + 1)) = (okL (l.take k) && okS l[k].1) := by
  unfold okL; rw [List.take_succ_eq_append_getElem h, List.all_append, List.all_cons, List.all_nil, Bool.and_true]
theorem okL_at {l : List Tg} {k : Nat} (h : k < l.length) (hk : okS l[k].1 = false) : okL l = false := by
  cases e : okL l with
  | false => rfl
  | true => unfold okL at e; rw [List.all_eq_true] at e; have := e _ (List.getElem_mem h); rw [hk] at this; cases this
/-- which tags may be -/
def rtD (l : List Tg) (any : Bool) : Bool := decide (l.length ≤ 32) && !(any && decide (0 < l.length)) && okL l
theorem rtD_great {l : List Tg} {any : Bool} (h : ¬ l.length ≤ 32) : rtD l any = false := by unfold rtD; simp [h]
theorem rtD_any {l : List Tg} (h : 0 < l.length) : rtD l true = false := by unfold rtD; simp [h]
theorem rtD_okL {l : List Tg} {any : Bool} (h : l.length ≤ 32) (ha : ¬ (any = true ∧ 0 < l.length)) : rtD l any = okL l := by
  unfold rtD
  cases any with
  | false => simp [h]
  | true => have : ¬ 0 < l.length := fun q => ha ⟨rfl, q⟩
            simp [this]; intro h2; omega
theorem size_lt {w w1 : World} (h : Below w.heap.size w w1) : w.heap.size < w1.heap.size + 1 := by have := h.size; omega

set_option maxHeartbeats 4000000 in
theorem rightTags_any (A : Option Addr) (n c : Nat) (l : List Tg) (any : Bool) (w : World) (hn : l.length = n) (_hm : n ≤ maxLen) (hM : T.Mx l) (hs : TgAt w w.heap.size A l) :
    Calls Tryz.prog 34 #[.slice A n c, .bool any] w fun e w' => e = .returned (.bool (rtD l any)) ∧ Below w.heap.size w w' := by
  have HS := Lib.hid hs
  have HL := Lib.hid hn
  have HM := Lib.hid hM
  clear hs hn hM
  by_cases h32 : n ≤ 32
  · by_cases ha : any = true ∧ 0 < n
    · obtain ⟨rfl, h0⟩ := ha
      have HF : Hid (rtD l true = false) := rtD_any (by have := HL.out; omega)
      go_enter Tryz.func34, Tryz.ntmps34
      go_wp2
      go_ret
      exact ⟨T.ret_bool HF.out.symm, by go_grown⟩
    · have HF : Hid (rtD l any = okL l) := rtD_okL (by have := HL.out; omega) (by have := HL.out; rw [this]; exact ha)
      rw [HF.out]
      clear HF
      have hgo : any = false ∨ (any = true ∧ n = 0) := by
        cases any with
        | false => exact Or.inl rfl
        | true => exact Or.inr ⟨rfl, Nat.eq_zero_of_not_pos fun q => ha ⟨rfl, q⟩⟩
      clear ha
      rcases hgo with rfl | ⟨rfl, rfl⟩
      · go_enter Tryz.func34, Tryz.ntmps34
        go_wp2
        go_loopw [20] (fun i wr => ∃ k : Nat, k ≤ n ∧ i = .int .i64 k ∧ Hid (okL (l.take k) = true) ∧ Below w.heap.size w wr) (fun i _ => n - (intOf i).toNat)
        case atStart => exact ⟨0, Nat.zero_le _, rfl, rfl, Below.refl _ _⟩
        case round =>
          obtain ⟨k, hk, rfl, HG, hbel⟩ := hrel
          by_cases hlt : k < n
          · have hkl : k < l.length := by have := HL.out; omega
            obtain ⟨b, o, rfl, hb, hc⟩ := (HS.out.below hbel (Nat.le_refl _)) (by omega)
            obtain ⟨c0, c1⟩ := hc k hkl
            clear hc
            have hx := HM.out.at_ hkl
            have HT := Lib.hid (okL_take hkl)
            have HA := Lib.hid (fun h => okL_at hkl h)
            obtain ⟨X, hX⟩ : ∃ X, Hid (l[k] = X) := ⟨l[k], rfl⟩
            rw [hX.out] at HT HA c0 c1 hx
            clear hX
            obtain ⟨x, p⟩ := X
            simp only at c0 c1 hx
            have hbz : b < wr.heap.size := by have := hbel.size; omega
            have hR := fun W => T.right_any x p W hx
            have HO : Hid (okS (x, p).1 = okS x) := rfl
            generalize okS x = r at *
            cases r with
            | true =>
              have HF : Hid (okL (l.take (k + 1)) = true) := by unfold Hid; rw [HT.out, HG.out, HO.out]; rfl
              clear HT HA HO HG
              go_wp2_with (go_at_call 36; with_reducible refine (hR _).mono ?_; rintro e w1 ⟨rfl, hb1⟩; have B1 : Below w.heap.size w w1 := hbel.trans ((((Below.refl _ _).alloc (Nat.le_refl _) _).trans (hb1.mono (by simp))).mono hbel.size))
              go_roundw
              case rel => exact ⟨k + 1, by omega, by go_num, HF, B1⟩
              case measure => simp [intOf]; omega
            | false =>
              have HF : Hid (okL l = false) := HA.out HO.out
              clear HT HA HO HG
              go_wp2_with (go_at_call 36; with_reducible refine (hR _).mono ?_; rintro e w1 ⟨rfl, hb1⟩; have B1 : Below w.heap.size w w1 := hbel.trans ((((Below.refl _ _).alloc (Nat.le_refl _) _).trans (hb1.mono (by simp))).mono hbel.size))
              go_ret
              exact ⟨T.ret_bool HF.out.symm, B1⟩
          · obtain rfl : k = n := by omega
            have HF : Hid (okL l = true) := by have h := HG.out; rwa [List.take_of_length_le (by have := HL.out; omega)] at h
            go_wp2
            go_ret
            exact ⟨T.ret_bool HF.out.symm, hbel⟩
      · have hl : l = [] := List.eq_nil_of_length_eq_zero HL.out
        subst hl
        have HF : Hid (okL [] = true) := rfl
        go_enter Tryz.func34, Tryz.ntmps34
        go_wp2
        go_loopw [20] (fun i wr => i = .int .i64 0 ∧ wr = w) (fun i _ => 0)
        case atStart => exact ⟨rfl, rfl⟩
        case round =>
          obtain ⟨rfl, rfl⟩ := hrel
          go_wp2
          go_ret
          exact ⟨T.ret_bool HF.out.symm, Below.refl _ _⟩
  · have HF : Hid (rtD l any = false) := rtD_great (by have := HL.out; omega)
    go_enter Tryz.func34, Tryz.ntmps34
    go_wp2
    go_ret
    exact ⟨T.ret_bool HF.out.symm, by go_grown⟩
end Go.Proofs.YtomcoacndppkcaaGreatDoor
