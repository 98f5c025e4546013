/-
  The walk of SpecCosts.
-/
import Derived.Test.YtdmkfleiipfbgaaDoorPJ
import Derived.Test.YtdmkfleiipfbgaaDoorPD
namespace Go.Proofs.YtdmkfleiipfbgaaDoor
open Go Go.RowKit

/-- two spans lie apart -/
def Dj (x y : Sp) : Prop := x.2 ≤ y.1 ∨ y.2 ≤ x.1
theorem sumL_perm {l m : List Sp} (h : l.Perm m) : sumL l = sumL m := by
  unfold sumL
  induction h with
  | nil => rfl
  | cons x _ ih => simp only [List.map_cons, List.sum_cons]; omega
  | swap x y l => simp only [List.map_cons, List.sum_cons]; omega
  | trans _ _ h1 h2 => omega
theorem last_max : ∀ {l : List Sp}, l ≠ [] → ∃ x ∈ l, ∀ y ∈ l, y.2 ≤ x.2
  | [], h => absurd rfl h
  | [x], _ => ⟨x, by simp, by simp⟩
  | x :: y :: l, _ => by
    obtain ⟨z, hz, hm⟩ := last_max (l := y :: l) (by simp)
    by_cases h : z.2 ≤ x.2
    · refine ⟨x, by simp, fun u hu => ?_⟩
      rcases List.mem_cons.1 hu with rfl | hu
      · omega
      · have := hm u hu; omega
    · refine ⟨z, List.mem_cons_of_mem _ hz, fun u hu => ?_⟩
      rcases List.mem_cons.1 hu with rfl | hu
      · omega
      · exact hm u hu
theorem sum_apart : ∀ (n : Nat) (l : List Sp) (t : Int), l.length = n → 0 ≤ t → (∀ x ∈ l, 0 ≤ x.1 ∧ x.1 < x.2 ∧ x.2 ≤ t) → l.Pairwise Dj → sumL l ≤ t
  | 0, l, t, hn, h0, _, _ => by
    have : l = [] := List.eq_nil_of_length_eq_zero hn
    subst this; simpa [sumL] using h0
  | n + 1, l, t, hn, h0, hb, hp => by
    obtain ⟨x, hx, hm⟩ := last_max (l := l) (by intro e; subst e; simp at hn)
    have hperm := List.perm_cons_erase hx
    have hp' := (hperm.pairwise_iff (R := Dj) (fun {a b} h => by unfold Dj at *; omega)).1 hp
    obtain ⟨h1, h2⟩ := List.pairwise_cons.1 hp'
    have hxb := hb x hx
    have hlen : (l.erase x).length = n := by rw [List.length_erase_of_mem hx]; omega
    have ih := sum_apart n (l.erase x) x.1 hlen hxb.1 (fun y hy => by
      have hy' := List.mem_of_mem_erase hy
      have a := hb y hy'
      have b := hm y hy'
      have c := h1 y hy
      unfold Dj at c; omega) h2
    rw [sumL_perm hperm]
    unfold sumL at *
    simp only [List.map_cons, List.sum_cons]
    omega

/-- all pairs so far lie apart -/
def ApR (l : List Sp) (i k : Nat) : Prop := (∀ a b (ha : a < l.length) (hb : b < l.length), a < b → b < i → Dj l[a] l[b]) ∧ (∀ a (ha : a < l.length) (hi : i < l.length), a < k → Dj l[a] l[i])
theorem ApR.all {l : List Sp} {i : Nat} (h : ApR l i 0) (hi : l.length ≤ i) : l.Pairwise Dj := by
  rw [List.pairwise_iff_getElem]
  intro a b ha hb hab
  exact h.1 a b ha hb hab (by omega)
theorem ApR.next {l : List Sp} {i : Nat} (h : ApR l i i) : ApR l (i + 1) 0 := by
  refine ⟨fun a b ha hb hab hbi => ?_, fun a ha hi hk => absurd hk (Nat.not_lt_zero _)⟩
  by_cases e : b = i
  · subst e; exact h.2 a ha hb hab
  · exact h.1 a b ha hb hab (by omega)
theorem ApR.more {l : List Sp} {i k : Nat} (h : ApR l i k) (hk : k < l.length) (hi : i < l.length) (hd : Dj l[k] l[i]) : ApR l i (k + 1) := by
  refine ⟨h.1, fun a ha hi' hak => ?_⟩
  by_cases e : a = k
  · subst e; exact hd
  · exact h.2 a ha hi' (by omega)

set_option maxHeartbeats 8000000 in
set_option maxRecDepth 100000 in
theorem walk_SpecCosts (A : Option Addr) (n c : Nat) (l : List Sp) (t m : Int) (w : World) (hL : MX w) (hn : l.length = n) (_hm : n ≤ maxLen) (hs : SpAt w w.heap.size A l) (_wt : (Lit.int .i64 t).wf = true) (_wm : (Lit.int .i64 m).wf = true) :
    Calls Tryd.prog 9 #[.slice A n c, .int .i64 t, .int .i64 m] w fun e w' => e = .returned (.bool true) ∧ Below w.heap.size w w' := by
  by_cases h100 : n > 100
  · have hg : decide ((n : Int) > 100) = true := by simp; omega
    go_enter Tryd.func9, Tryd.ntmps9
    go_wp2_with (go_at_call 11; refine (awake_any _ hL).mono ?_; rintro e w1 ⟨rfl, hb1⟩)
    go_ret
    exact ⟨rfl, hb1⟩
  · have hal := all_any4 A n c l w hn (by omega) hs
    cases hr : allR l with
    | false =>
      rw [hr] at hal
      go_enter Tryd.func9, Tryd.ntmps9
      go_wp2_with (first
        | (go_at_call 19; refine hal.mono ?_; rintro e w0 ⟨rfl, hb0⟩)
        | (go_at_call 11; refine (awake_any _ (hL.below hb0)).mono ?_; rintro e w1 ⟨rfl, hb1⟩; have B1 := Ext.tr hb0 hb1))
      go_ret
      exact ⟨rfl, B1⟩
    | true =>
      rw [hr] at hal
      by_cases h0 : t < 0
      · go_enter Tryd.func9, Tryd.ntmps9
        go_wp2_with (first
          | (go_at_call 19; refine hal.mono ?_; rintro e w0 ⟨rfl, hb0⟩)
          | (go_at_call 11; refine (awake_any _ (hL.below hb0)).mono ?_; rintro e w1 ⟨rfl, hb1⟩; have B1 := Ext.tr hb0 hb1))
        go_ret
        exact ⟨rfl, B1⟩
      · by_cases h1 : t > 1099511627776
        · go_enter Tryd.func9, Tryd.ntmps9
          go_wp2_with (first
            | (go_at_call 19; refine hal.mono ?_; rintro e w0 ⟨rfl, hb0⟩)
            | (go_at_call 11; refine (awake_any _ (hL.below hb0)).mono ?_; rintro e w1 ⟨rfl, hb1⟩; have B1 := Ext.tr hb0 hb1))
          go_ret
          exact ⟨rfl, B1⟩
        · have hsr := SRL.of hr
          have hC := fun W (hW : Ext w W) => costly_any t m A n c l W hn (by omega) hsr (by omega) (by omega) (hs.below hW hW.size)
          have hD := fun W (hW : Ext w W) => rcostly_any t m A n c l W hn (by omega) hsr (by omega) (by omega) (hs.below hW hW.size)
          have hB := fun W (hW : Ext w W) => rresolve_any t A n c l W hn (by omega) hsr (by omega) (by omega) (hs.below hW hW.size)
          have hlen : (resL t l).length ≤ 100 := by have := resL_len t l; omega
          have HLE := Lib.hid hlen
          have HK : Hid ((resL t l).Pairwise Dj → (n : Int) ≤ m → cosB t l n m = false) := fun hp hnm => by
            have e1 := sum_apart _ (resL t l) t rfl (by omega) (res_within hsr (by omega)) hp
            have e2 := sum_res (t := t) (by omega) (by omega) hsr
            unfold cosB; simp; omega
          unfold ResPost at hB
          generalize resL t l = R at *
          generalize cosB t l n m = C at *
          have hCC : (C == C) = true := by simp
          clear hs hn hr hsr hlen
          go_enter Tryd.func9, Tryd.ntmps9
          go_wp2_with (first
            | (go_at_call 19; refine hal.mono ?_; rintro e w0 ⟨rfl, hb0⟩)
            | (go_at_call 34; refine (hC _ hb0).mono ?_; rintro e w1 ⟨rfl, hb1⟩; have B1 := Ext.tr hb0 hb1)
            | (go_at_call 21; refine (hB _ B1).mono ?_; rintro e w2 ⟨v2, rfl, hown2, hb2⟩; have B2 := Ext.tr B1 hb2; obtain ⟨A1, n1, c1, rfl, HN1, hc1, hs1⟩ := (IsSp.own hown2).split; have HS1 := Lib.hid hs1; clear hs1 hown2))
          have hn1 : n1 ≤ 100 := by have := HN1.out; have := HLE.out; omega
          go_loopw [10, 42] (fun ap i wr => ∃ (k : Nat) (f : Bool), k ≤ n1 ∧ i = .int .i64 k ∧ ap = .bool f ∧ Hid (f = true → ApR R k 0) ∧ Below w2.heap.size w2 wr) (fun _ i _ => n1 - (intOf i).toNat)
          case atStart => exact ⟨0, true, Nat.zero_le _, rfl, rfl, fun _ => ⟨fun a b _ _ _ h => absurd h (Nat.not_lt_zero _), fun a _ _ h => absurd h (Nat.not_lt_zero _)⟩, Below.refl _ _⟩
          case round =>
            obtain ⟨i, f, hi, rfl, rfl, HA, hbel⟩ := hrel
            by_cases hlt : i < n1
            · have hil : i < R.length := by have := HN1.out; omega
              obtain ⟨b, o, rfl, hbb, hc⟩ := HS1.out (by omega)
              have HCC := Lib.hid hc
              clear hc
              go_wp2_with fail
              go_loopw [10, 49] (fun ap j wq => ∃ (k : Nat) (f : Bool), k ≤ i ∧ j = .int .i64 k ∧ ap = .bool f ∧ Hid (f = true → ApR R i k) ∧ Below w2.heap.size w2 wq) (fun _ j _ => i - (intOf j).toNat)
              case atStart => exact ⟨0, f, Nat.zero_le _, rfl, rfl, HA, hbel⟩
              case round =>
                obtain ⟨k, g, hk, rfl, rfl, HB, hbq⟩ := hrel
                by_cases hlk : k < i
                · have hkl : k < R.length := by omega
                  have c0 : wr.cell? ⟨b, o + k * 2, none⟩ = some (.int .i64 R[k].1) := by rw [hbq.cell (p := ⟨b, o + k * 2, none⟩) hbb]; exact (HCC.out k hkl).1
                  have c1 : wr.cell? ⟨b, o + k * 2 + 1, none⟩ = some (.int .i64 R[k].2) := by rw [hbq.cell (p := ⟨b, o + k * 2 + 1, none⟩) hbb]; exact (HCC.out k hkl).2
                  have d0 : wr.cell? ⟨b, o + i * 2, none⟩ = some (.int .i64 R[i].1) := by rw [hbq.cell (p := ⟨b, o + i * 2, none⟩) hbb]; exact (HCC.out i hil).1
                  have d1 : wr.cell? ⟨b, o + i * 2 + 1, none⟩ = some (.int .i64 R[i].2) := by rw [hbq.cell (p := ⟨b, o + i * 2 + 1, none⟩) hbb]; exact (HCC.out i hil).2
                  have HM : Hid (g = true → Dj R[k] R[i] → ApR R i (k + 1)) := fun e hd => (HB.out e).more hkl hil hd
                  have hkn : k < n1 := by omega
                  generalize R[k] = X at *
                  generalize R[i] = Y at *
                  obtain ⟨x, y⟩ := X
                  obtain ⟨p, q⟩ := Y
                  unfold Dj at HM
                  simp only at c0 c1 d0 d1 HM
                  have hbz : b < wr.heap.size := by have := hbq.size; omega
                  clear HA HB hbel HCC
                  cases g with
                  | false =>
                    clear HM
                    go_wp2
                    go_quiet (fail)
                    go_wp2
                    go_roundw
                    case rel => exact ⟨k + 1, false, by omega, by go_num, rfl, (fun e => absurd e (by decide)), below_drewN hbq _⟩
                    case measure => simp [intOf]; omega
                  | true =>
                    by_cases h5 : q ≤ x
                    · have HF : Hid (ApR R i (k + 1)) := HM.out rfl (by omega)
                      clear HM
                      go_wp2
                      go_quiet (fail)
                      go_wp2
                      go_roundw
                      case rel => exact ⟨k + 1, true, by omega, by go_num, rfl, fun _ => HF.out, below_drewN hbq _⟩
                      case measure => simp [intOf]; omega
                    · by_cases h6 : y ≤ p
                      · have HF : Hid (ApR R i (k + 1)) := HM.out rfl (by omega)
                        clear HM
                        go_wp2
                        go_quiet (fail)
                        go_wp2
                        go_roundw
                        case rel => exact ⟨k + 1, true, by omega, by go_num, rfl, fun _ => HF.out, below_drewN hbq _⟩
                        case measure => simp [intOf]; omega
                      · clear HM
                        go_wp2
                        go_quiet (fail)
                        go_wp2
                        go_roundw
                        case rel => exact ⟨k + 1, false, by omega, by go_num, by simp [h5, h6], (fun e => absurd e (by decide)), below_drewN hbq _⟩
                        case measure => simp [intOf]; omega
                · obtain rfl : k = i := by omega
                  have HF : Hid (g = true → ApR R (k + 1) 0) := fun e => (HB.out e).next
                  clear HA HB
                  go_wp2
                  go_roundw
                  case rel => exact ⟨k + 1, g, by omega, by go_num, rfl, HF, hbq⟩
                  case measure => simp [intOf]; omega
            · obtain rfl : i = n1 := by omega
              have HP : Hid (f = true → (n : Int) ≤ m → C = false) := fun e hnm => HK.out ((HA.out e).all (by have := HN1.out; omega)) hnm
              have B4 := Ext.tr B2 hbel
              cases f with
              | false =>
                go_wp2_with (first
                  | (go_at_call 35; refine (hD _ B4).mono ?_; rintro e w5 ⟨rfl, hb5⟩; have B5 := Ext.tr B4 hb5)
                  | (go_at_call 11; refine (awake_any _ (hL.below B5)).mono ?_; rintro e w6 ⟨rfl, hb6⟩; have B6 := Ext.tr B5 hb6))
                go_ret
                exact ⟨rfl, B6⟩
              | true =>
                by_cases hnm : (n : Int) ≤ m
                · obtain rfl : C = false := HP.out rfl hnm
                  go_wp2_with (first
                    | (go_at_call 35; refine (hD _ B4).mono ?_; rintro e w5 ⟨rfl, hb5⟩; have B5 := Ext.tr B4 hb5)
                    | (go_at_call 11; refine (awake_any _ (hL.below B5)).mono ?_; rintro e w6 ⟨rfl, hb6⟩; have B6 := Ext.tr B5 hb6))
                  go_ret
                  exact ⟨rfl, B6⟩
                · have hnm' : decide ((n : Int) ≤ m) = false := by simpa using hnm
                  go_wp2_with (first
                    | (go_at_call 35; refine (hD _ B4).mono ?_; rintro e w5 ⟨rfl, hb5⟩; have B5 := Ext.tr B4 hb5)
                    | (go_at_call 11; refine (awake_any _ (hL.below B5)).mono ?_; rintro e w6 ⟨rfl, hb6⟩; have B6 := Ext.tr B5 hb6))
                  go_ret
                  exact ⟨rfl, B6⟩
end Go.Proofs.YtdmkfleiipfbgaaDoor
