/-
  Two lists alike; a list that is too great.
-/
import Derived.Test.YtfhodolenjeheaaDoorTD
import Derived.WalkSmall
namespace Go.Proofs.YtfhodolenjeheaaDoor
open Go Go.RowKit
open Go.Sort (grow)

theorem below_drewN {B : Nat} {a w : World} (h : Below B a w) (n : Nat) : Below B a (w.drewN n) := h.trans ⟨rfl, rfl, rfl, Nat.le_refl _, fun _ _ => rfl⟩
theorem take_same_snoc {α : Type} {l m : List α} {k : Nat} (h1 : k < l.length) (h2 : k < m.length) (h : l.take k = m.take k) (hx : l[k] = m[k]) : l.take (k + 1) = m.take (k + 1) := by
  rw [List.take_succ_eq_append_getElem h1, List.take_succ_eq_append_getElem h2, h, hx]
theorem ne_at {α : Type} {l m : List α} {k : Nat} (h1 : k < l.length) (h2 : k < m.length) (hx : l[k] ≠ m[k]) : l ≠ m := by
  rintro rfl; exact hx rfl
theorem eqB_f {s t : ByteArray} (h : s ≠ t) : (s.toList == t.toList) = false := by
  cases e : s.toList == t.toList with
  | false => rfl
  | true => exact absurd (eqB_iff.1 e) h
/-- two lists are alike -/
noncomputable def sameT (l m : List Tg) : Bool := @decide (l = m) (Classical.propDecidable _)
theorem sameT_t {l m : List Tg} (h : l = m) : sameT l m = true := by unfold sameT; simp [h]
theorem sameT_f {l m : List Tg} (h : l ≠ m) : sameT l m = false := by unfold sameT; simp [h]

set_option maxHeartbeats 4000000 in
theorem rsame_any (A A' : Option Addr) (n n' c c' : Nat) (l m : List Tg) (w : World) (hl : l.length = n) (hl' : m.length = n') (hm : n ≤ 1000000) (hs : TgAt w w.heap.size A l) (hs' : TgAt w w.heap.size A' m) :
    Calls Tryd.prog 22 #[.slice A n c, .slice A' n' c'] w fun e w' => e = .returned (.bool (sameT l m)) ∧ Below w.heap.size w w' := by
  have HS := Lib.hid hs; have HS' := Lib.hid hs'
  have HL := Lib.hid hl; have HL' := Lib.hid hl'
  clear hs hs' hl hl'
  by_cases hlen : n = n'
  · subst hlen
    go_enter Tryd.func22, Tryd.ntmps22
    go_wp2
    go_loopw [5] (fun i wr => ∃ k : Nat, k ≤ n ∧ i = .int .i64 k ∧ Hid (l.take k = m.take k) ∧ Below w.heap.size w wr) (fun i _ => n - (intOf i).toNat)
    case atStart => exact ⟨0, Nat.zero_le _, rfl, rfl, Below.refl _ _⟩
    case round =>
      obtain ⟨k, hk, rfl, HG, hbel⟩ := hrel
      by_cases hlt : k < n
      · have hkl : k < l.length := by have := HL.out; omega
        have hkm : k < m.length := by have := HL'.out; omega
        obtain ⟨b, o, rfl, hb, hc⟩ := (HS.out.below hbel (Nat.le_refl _)) (by omega)
        obtain ⟨b', o', rfl, hb', hc'⟩ := (HS'.out.below hbel (Nat.le_refl _)) (by omega)
        obtain ⟨c0, c1⟩ := hc k hkl
        obtain ⟨d0, d1⟩ := hc' k hkm
        clear hc hc'
        have HT := Lib.hid (take_same_snoc hkl hkm HG.out)
        have HA := Lib.hid (ne_at hkl hkm)
        obtain ⟨X, hX⟩ : ∃ X, Hid (l[k] = X) := ⟨l[k], rfl⟩
        obtain ⟨Y, hY⟩ : ∃ Y, Hid (m[k] = Y) := ⟨m[k], rfl⟩
        rw [hX.out] at HT HA c0 c1
        rw [hY.out] at HT HA d0 d1
        clear hX hY
        obtain ⟨x, p⟩ := X
        obtain ⟨y, q⟩ := Y
        simp only at c0 c1 d0 d1
        have hbz : b < wr.heap.size := by have := hbel.size; omega
        have hbz' : b' < wr.heap.size := by have := hbel.size; omega
        by_cases h1 : x = y
        · subst h1
          have e1 : (x.toList == x.toList) = true := by simp
          by_cases h2 : p = q
          · subst h2
            have HF : Hid (l.take (k + 1) = m.take (k + 1)) := HT.out rfl
            clear HT HA HG
            go_wp2
            go_quiet (fail)
            go_wp2
            go_roundw
            case rel => exact ⟨k + 1, by omega, by go_num, HF, below_drewN hbel _⟩
            case measure => simp [intOf]; omega
          · have HF : Hid (l ≠ m) := HA.out (by intro h; injection h with _ h; exact h2 h)
            have e2 : (p == q) = false := by simpa using h2
            clear HT HA HG
            go_wp2
            go_quiet (fail)
            go_wp2
            go_ret
            exact ⟨ret_bool (sameT_f HF.out).symm, below_drewN hbel _⟩
        · have HF : Hid (l ≠ m) := HA.out (by intro h; injection h with h _; exact h1 h)
          have e1 := eqB_f h1
          clear HT HA HG
          go_wp2
          go_quiet (fail)
          go_wp2
          go_ret
          exact ⟨ret_bool (sameT_f HF.out).symm, below_drewN hbel _⟩
      · obtain rfl : k = n := by omega
        have HF : Hid (l = m) := by
          have := HG.out
          rwa [List.take_of_length_le (by have := HL.out; omega), List.take_of_length_le (by have := HL'.out; omega)] at this
        clear HG
        go_wp2
        go_ret
        exact ⟨ret_bool (sameT_t HF.out).symm, hbel⟩
  · have hb1 : ((n : Int) == (n' : Int)) = false := beqi_f (by omega)
    have HF : Hid (l ≠ m) := fun e => hlen (by rw [← HL.out, ← HL'.out, e])
    go_enter Tryd.func22, Tryd.ntmps22
    go_wp2
    go_ret
    exact ⟨ret_bool (sameT_f HF.out).symm, Below.refl _ _⟩
theorem rsame_is {W : World} {v u : Value} {l m : List Tg} (h : IsTg W v l) (k : IsTg W u m) (hm : l.length ≤ 1000000) :
    Calls Tryd.prog 22 #[v, u] W fun e w' => e = .returned (.bool (sameT l m)) ∧ Below W.heap.size W w' := by
  obtain ⟨A, c, rfl, _, hs⟩ := h
  obtain ⟨A', c', rfl, _, hs'⟩ := k
  exact rsame_any A A' _ _ c c' l m W rfl rfl hm hs hs'

/-- how great -/
theorem gsum_append (l m : List Tg) : gsum (l ++ m) = gsum l + gsum m := by
  unfold gsum; rw [List.map_append, List.sum_append]
theorem gsum_one (x : Tg) : gsum [x] = 1 + x.1.size := by unfold gsum; simp
theorem gsum_take {l : List Tg} {k : Nat} (h : k < l.length) : gsum (l.take (k + 1)) = gsum (l.take k) + 1 + l[k].1.size := by
  rw [List.take_succ_eq_append_getElem h, gsum_append, gsum_one]; omega
theorem gsum_le {l : List Tg} (k : Nat) : gsum (l.take k) ≤ gsum l := by
  have h := gsum_append (l.take k) (l.drop k)
  rw [List.take_append_drop] at h
  omega
theorem gsum_len (l : List Tg) : l.length ≤ gsum l := by
  unfold gsum
  induction l with
  | nil => simp
  | cons x l ih => simp only [List.map_cons, List.sum_cons, List.length_cons]; omega
theorem gsum_at {l : List Tg} {x : Tg} (h : x ∈ l) : x.1.size ≤ gsum l := by
  unfold gsum
  induction l with
  | nil => cases h
  | cons y l ih =>
    simp only [List.map_cons, List.sum_cons]
    rcases List.mem_cons.1 h with rfl | h
    · omega
    · have := ih h; omega

set_option maxHeartbeats 4000000 in
theorem great_any (A : Option Addr) (n c : Nat) (l : List Tg) (w : World) (hn : l.length = n) (hm : n ≤ maxLen) (hM : Mx l) (hs : TgAt w w.heap.size A l) :
    Calls Tryd.prog 15 #[.slice A n c] w fun e w' => e = .returned (.bool (greatD l)) ∧ w = w' := by
  have HS := Lib.hid hs
  have HL := Lib.hid hn
  have HM := Lib.hid hM
  unfold maxLen at hm
  clear hs hn hM
  go_enter Tryd.func15, Tryd.ntmps15
  go_wp2
  go_loop [3, 4] (fun v i => ∃ k g : Nat, k ≤ n ∧ v = .int .i64 g ∧ i = .int .i64 k ∧ Hid (gsum (l.take k) = g) ∧ g ≤ 4611686018427387904) (fun _ i => n - (intOf i).toNat)
  case atStart => exact ⟨0, 0, Nat.zero_le _, rfl, rfl, rfl, by omega⟩
  case round =>
    obtain ⟨k, g, hk, rfl, rfl, HG, hg⟩ := hrel
    by_cases hlt : k < n
    · by_cases h4 : g ≤ 400
      · have hkl : k < l.length := by have := HL.out; omega
        obtain ⟨b, o, rfl, hb, hc⟩ := HS.out (by omega)
        obtain ⟨c0, -⟩ := hc k hkl
        clear hc
        have hx := HM.out.at0 hkl
        have HT := Lib.hid (gsum_take hkl)
        generalize l[k].1 = x at *
        unfold szM at hx
        have HK : Hid (gsum (l.take (k + 1)) = g + 1 + x.size) := by unfold Hid; rw [HT.out, HG.out]
        clear HT HG
        go_wp2
        go_round
        case rel => exact ⟨k + 1, g + 1 + x.size, by omega, by go_num, by go_num, HK, by omega⟩
        case measure => simp [intOf]; omega
      · have HF : Hid (greatD l = true) := by
          have := gsum_le (l := l) k
          have := HG.out
          unfold Hid greatD; simp only [decide_eq_true_eq]; omega
        go_wp2
        go_ret
        exact ⟨ret_bool (by rw [HF.out]; first | done | (simp; omega)), rfl⟩
    · obtain rfl : k = n := by omega
      have HE : Hid (gsum l = g) := by have h := HG.out; rwa [List.take_of_length_le (by have := HL.out; omega)] at h
      by_cases h4 : g ≤ 400
      · have HF : Hid (greatD l = false) := by
          have := HE.out
          unfold Hid greatD; simp only [decide_eq_false_iff_not]; omega
        go_wp2
        go_ret
        exact ⟨ret_bool (by rw [HF.out]; first | done | (simp; omega)), rfl⟩
      · have HF : Hid (greatD l = true) := by
          have := HE.out
          unfold Hid greatD; simp only [decide_eq_true_eq]; omega
        go_wp2
        go_ret
        exact ⟨ret_bool (by rw [HF.out]; first | done | (simp; omega)), rfl⟩
end Go.Proofs.YtfhodolenjeheaaDoor
