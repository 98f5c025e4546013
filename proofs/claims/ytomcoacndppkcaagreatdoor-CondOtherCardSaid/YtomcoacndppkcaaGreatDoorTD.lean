/-
  One of a list is a tag, by the program and by the reference; two lists alike; a list that is too great.
-/
import Derived.Lib.QuietBelow
import Derived.Test.YtomcoacndppkcaaGreatDoorTC
namespace Go.Proofs.YtomcoacndppkcaaGreatDoor.T
open Go Go.RowKit
open Go.Sort (grow)

theorem rg4 {P : Program} {f : FuncId} {args : Array Value} {w : World} {v : Value} (h : ∀ W, Below w.heap.size w W → Calls P f args W fun e w' => e = .returned v ∧ Below W.heap.size W w') :
    ∀ d os, Calls P f args (grow (redrawn w d) os) fun e w'' => e = .returned v ∧ ∃ p : Regrown, w'' = grow (redrawn w p.d) p.os :=
  fun d os => Calls.regrown_of (h _ (below_regrown w d os))
/-- no text is greater than texts can be -/
def Mx (l : List Tg) : Prop := ∀ x ∈ l, x.1.size ≤ szM
theorem Mx.at0 {l : List Tg} (h : Mx l) {k : Nat} (hk : k < l.length) : l[k].1.size ≤ szM := h _ (List.getElem_mem hk)
theorem Mx.at_ {l : List Tg} (h : Mx l) {k : Nat} (hk : k < l.length) : l[k].1.size ≤ maxLen := szM_max (h.at0 hk)

set_option maxHeartbeats 4000000 in
theorem in_any (A : Option Addr) (n c : Nat) (l : List Tg) (t : ByteArray) (q st : Bool) (w : World) (hn : l.length = n) (hm : n ≤ 1000000) (hM : Mx l) (ht : t.size ≤ maxLen) (hs : TgAt w w.heap.size A l) :
    Calls Tryz.prog 66 #[.slice A n c, .agg #[.string t, .bool q], .bool st] w fun e w' => e = .returned (.bool (inD l (t, q) st)) ∧ Below w.heap.size w w' := by
  have HS := Lib.hid hs
  have HL := Lib.hid hn
  have HM := Lib.hid hM
  clear hs hn hM
  have hb0 : Below w.heap.size w (w.alloc (.cells #[.string t, .bool q] 27)) := by go_grown
  cases st with
  | true =>
    go_enter Tryz.func66, Tryz.ntmps66
    go_wp2
    go_loopw [11] (fun i wr => ∃ k : Nat, k ≤ n ∧ i = .int .i64 k ∧ Hid (inD (l.take k) (t, q) true = false) ∧ Below (w.heap.size + 1) (w.alloc (.cells #[.string t, .bool q] 27)) wr) (fun i _ => n - (intOf i).toNat)
    case atStart => exact ⟨0, Nat.zero_le _, rfl, rfl, Below.refl _ _⟩
    case round =>
      obtain ⟨k, hk, rfl, HG, hbel⟩ := hrel
      have bw : Below w.heap.size w wr := hb0.trans (hbel.mono (by simp))
      have hcz := hbel.size
      simp only [World.size_alloc] at hcz
      by_cases hlt : k < n
      · have hkl : k < l.length := by have := HL.out; omega
        obtain ⟨b, o, rfl, hb, hc⟩ := (HS.out.below bw (Nat.le_refl _)) (by omega)
        obtain ⟨c0, c1⟩ := hc k hkl
        clear hc
        have hx := HM.out.at_ hkl
        have HT := Lib.hid (inD_take (t := (t, q)) (st := true) hkl)
        have HA := Lib.hid (fun h => inD_at (t := (t, q)) (st := true) hkl h)
        obtain ⟨X, hX⟩ : ∃ X, Hid (l[k] = X) := ⟨l[k], rfl⟩
        rw [hX.out] at HT HA c0 c1 hx
        clear hX
        obtain ⟨x, p⟩ := X
        simp only at c0 c1 hx
        have hbz : b < wr.heap.size := by have := bw.size; omega
        obtain ⟨d0, d1, dz⟩ := cell1 hbel
        have hA := fun W => strong_any x t p q W hx ht
        have HO : Hid (oneD true (x, p) (t, q) = stD (x, p) (t, q)) := rfl
        generalize stD (x, p) (t, q) = r at *
        cases r with
        | true =>
          have HF : Hid (inD l (t, q) true = true) := HA.out HO.out
          clear HT HA HO HG HS HL HM
          go_wp2_with (go_at_call 46; with_reducible refine (hA _).mono ?_; rintro e w1 ⟨rfl, hb1⟩; have B1 : Below w.heap.size w w1 := bw.trans ((((Below.refl _ _).alloc (Nat.le_refl _) _).trans (hb1.mono (by simp))).mono bw.size))
          go_ret
          exact ⟨ret_bool HF.out.symm, B1⟩
        | false =>
          have HF : Hid (inD (l.take (k + 1)) (t, q) true = false) := by unfold Hid; rw [HT.out, HG.out, HO.out]; rfl
          clear HT HA HO HG
          go_wp2_with (go_at_call 46; with_reducible refine (hA _).mono ?_; rintro e w1 ⟨rfl, hb1⟩; have B1 : Below (w.heap.size + 1) (w.alloc (.cells #[.string t, .bool q] 27)) w1 := hbel.trans ((((Below.refl _ _).alloc (Nat.le_refl _) _).trans (hb1.mono (by simp))).mono hcz))
          go_roundw
          case rel => exact ⟨k + 1, by omega, by go_num, HF, B1⟩
          case measure => simp [intOf]; omega
      · obtain rfl : k = n := by omega
        have HF : Hid (inD l (t, q) true = false) := by have h := HG.out; rw [List.take_of_length_le (by have := HL.out; omega)] at h; exact h
        go_wp2
        go_ret
        exact ⟨ret_bool HF.out.symm, bw⟩
  | false =>
    go_enter Tryz.func66, Tryz.ntmps66
    go_wp2
    go_loopw [11] (fun i wr => ∃ k : Nat, k ≤ n ∧ i = .int .i64 k ∧ Hid (inD (l.take k) (t, q) false = false) ∧ Below (w.heap.size + 1) (w.alloc (.cells #[.string t, .bool q] 27)) wr) (fun i _ => n - (intOf i).toNat)
    case atStart => exact ⟨0, Nat.zero_le _, rfl, rfl, Below.refl _ _⟩
    case round =>
      obtain ⟨k, hk, rfl, HG, hbel⟩ := hrel
      have bw : Below w.heap.size w wr := hb0.trans (hbel.mono (by simp))
      have hcz := hbel.size
      simp only [World.size_alloc] at hcz
      by_cases hlt : k < n
      · have hkl : k < l.length := by have := HL.out; omega
        obtain ⟨b, o, rfl, hb, hc⟩ := (HS.out.below bw (Nat.le_refl _)) (by omega)
        obtain ⟨c0, c1⟩ := hc k hkl
        clear hc
        have hx := HM.out.at_ hkl
        have HT := Lib.hid (inD_take (t := (t, q)) (st := false) hkl)
        have HA := Lib.hid (fun h => inD_at (t := (t, q)) (st := false) hkl h)
        obtain ⟨X, hX⟩ : ∃ X, Hid (l[k] = X) := ⟨l[k], rfl⟩
        rw [hX.out] at HT HA c0 c1 hx
        clear hX
        obtain ⟨x, p⟩ := X
        simp only at c0 c1 hx
        have hbz : b < wr.heap.size := by have := bw.size; omega
        obtain ⟨d0, d1, dz⟩ := cell1 hbel
        have hA := fun W => weak_any x t p q W hx ht
        have HO : Hid (oneD false (x, p) (t, q) = wkD x t) := rfl
        generalize wkD x t = r at *
        cases r with
        | true =>
          have HF : Hid (inD l (t, q) false = true) := HA.out HO.out
          clear HT HA HO HG HS HL HM
          go_wp2_with (go_at_call 67; with_reducible refine (hA _).mono ?_; rintro e w1 ⟨rfl, hb1⟩; have B1 : Below w.heap.size w w1 := bw.trans ((((Below.refl _ _).alloc (Nat.le_refl _) _).trans (hb1.mono (by simp))).mono bw.size))
          go_ret
          exact ⟨ret_bool HF.out.symm, B1⟩
        | false =>
          have HF : Hid (inD (l.take (k + 1)) (t, q) false = false) := by unfold Hid; rw [HT.out, HG.out, HO.out]; rfl
          clear HT HA HO HG
          go_wp2_with (go_at_call 67; with_reducible refine (hA _).mono ?_; rintro e w1 ⟨rfl, hb1⟩; have B1 : Below (w.heap.size + 1) (w.alloc (.cells #[.string t, .bool q] 27)) w1 := hbel.trans ((((Below.refl _ _).alloc (Nat.le_refl _) _).trans (hb1.mono (by simp))).mono hcz))
          go_roundw
          case rel => exact ⟨k + 1, by omega, by go_num, HF, B1⟩
          case measure => simp [intOf]; omega
      · obtain rfl : k = n := by omega
        have HF : Hid (inD l (t, q) false = false) := by have h := HG.out; rw [List.take_of_length_le (by have := HL.out; omega)] at h; exact h
        go_wp2
        go_ret
        exact ⟨ret_bool HF.out.symm, bw⟩
end Go.Proofs.YtomcoacndppkcaaGreatDoor.T
