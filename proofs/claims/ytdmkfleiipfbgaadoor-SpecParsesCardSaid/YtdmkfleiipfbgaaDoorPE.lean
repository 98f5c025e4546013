/-
  The numbers and the ranges of a text: parseNumber, parseRange.
-/
import Derived.Lib.IndexMore
import Derived.Test.YtdmkfleiipfbgaaDoorShelf
import Derived.Test.YtdmkfleiipfbgaaDoorPA
namespace Go.Proofs.YtdmkfleiipfbgaaDoor
open Go Go.RowKit

theorem drop_at4 (s : ByteArray) (k : Nat) (h : k < s.size) : s.data.toList.drop k = s[k] :: s.data.toList.drop (k + 1) := by
  rw [List.drop_eq_getElem_cons (by rw [← Lib.size_eq]; exact h)]
  congr 1

/-- digits behind a number -/
def runD : Int → List UInt8 → Int × Bool
  | v, [] => (v, true)
  | v, c :: r => if (c.toNat : Int) < 48 ∨ 57 < (c.toNat : Int) then (0, false) else runD (10 * v + ((c.toNat : Int) - 48)) r
/-- the number of up to 18 digits; none: -1 -/
def numD (l : List UInt8) : Int × Bool := if l = [] then (-1, true) else if 18 < l.length then (0, false) else runD 0 l
theorem runD_bnd : ∀ (l : List UInt8) (v : Int) (k : Nat), 0 ≤ v → v < 10 ^ k → (runD v l).2 = true → 0 ≤ (runD v l).1 ∧ (runD v l).1 < 10 ^ (k + l.length)
  | [], v, k, h0, h1, _ => by simpa [runD] using ⟨h0, h1⟩
  | c :: r, v, k, h0, h1, h2 => by
    unfold runD at h2 ⊢
    by_cases h : (c.toNat : Int) < 48 ∨ 57 < (c.toNat : Int)
    · rw [if_pos h] at h2; cases h2
    · rw [if_neg h] at h2 ⊢
      have := runD_bnd r (10 * v + ((c.toNat : Int) - 48)) (k + 1) (by omega) (by rw [Int.pow_succ]; omega) h2
      rwa [List.length_cons, show k + (r.length + 1) = k + 1 + r.length by omega]
theorem numD_bnd {l : List UInt8} (h : (numD l).2 = true) : -1 ≤ (numD l).1 ∧ (numD l).1 ≤ 999999999999999999 := by
  unfold numD at h ⊢
  split at h
  · rename_i e; simp [e]
  · rename_i e
    rw [if_neg e]
    split at h
    · cases h
    · rename_i e2
      rw [if_neg e2]
      have := runD_bnd l 0 0 (by omega) (by omega) h
      have h3 : (10 : Int) ^ (0 + l.length) ≤ 10 ^ 18 := by
        have := Nat.pow_le_pow_right (n := 10) (by omega) (show 0 + l.length ≤ 18 by omega)
        exact_mod_cast this
      omega
theorem pow17 {k : Nat} (h : k ≤ 17) : (10 : Int) ^ k ≤ 100000000000000000 := by
  have := Nat.pow_le_pow_right (n := 10) (by omega) h
  have h3 : (10 : Int) ^ k ≤ 10 ^ 17 := by exact_mod_cast this
  omega

set_option maxHeartbeats 4000000 in
theorem number_any (s : ByteArray) (w : World) :
    Calls Tryd.prog 67 #[.string s] w fun e w' => e = .returned (.tuple #[.int .i64 (numD s.data.toList).1, .bool (numD s.data.toList).2]) ∧ w = w' := by
  by_cases hn : s.data.toList = []
  · have hs : s = ⟨#[]⟩ := by
      cases s with | mk d => simpa using hn
    have HF : Hid (numD s.data.toList = (-1, true)) := by unfold Hid numD; rw [if_pos hn]
    subst hs
    go_enter Tryd.func67, Tryd.ntmps67
    go_wp2
    exact bodyPost_ret (v := .tuple #[.int .i64 (-1), .bool true]) (by simp [results, Tryd.results67, go_sem]) rfl ⟨by rw [HF.out], rfl⟩
  · have hs0 : s.size ≠ 0 := fun e => hn (List.eq_nil_of_length_eq_zero (by rw [← Lib.size_eq]; exact e))
    have hne : s.toList.isEmpty = false := by rw [ByteArray.toList_eq, List.isEmpty_eq_false_iff]; exact hn
    by_cases hbig : 18 < s.size
    · have HF : Hid (numD s.data.toList = (0, false)) := by unfold Hid numD; rw [if_neg hn, if_pos (by rw [← Lib.size_eq]; exact hbig)]
      go_enter Tryd.func67, Tryd.ntmps67
      go_wp2
      exact bodyPost_ret (v := .tuple #[.int .i64 0, .bool false]) (by simp [results, Tryd.results67, go_sem]) rfl ⟨by rw [HF.out], rfl⟩
    · have HF : Hid (numD s.data.toList = runD 0 s.data.toList) := by unfold Hid numD; rw [if_neg hn, if_neg (by rw [← Lib.size_eq]; exact hbig)]
      clear hn
      go_enter Tryd.func67, Tryd.ntmps67
      go_wp2
      go_loop [4, 13] (fun n i => ∃ k : Nat, k ≤ s.size ∧ i = .int .i64 k ∧ ∃ v : Int, n = .int .i64 v ∧ 0 ≤ v ∧ Hid (v < 10 ^ k) ∧ Hid (runD v (s.data.toList.drop k) = runD 0 s.data.toList)) (fun _ i => s.size - (intOf i).toNat)
      case atStart => exact ⟨0, Nat.zero_le _, rfl, 0, rfl, by omega, by unfold Hid; decide, rfl⟩
      case round =>
        obtain ⟨k, hk, rfl, v, rfl, v0, HB, HV⟩ := hrel
        by_cases hlt : k < s.size
        · have HD := Lib.hid (drop_at4 s k hlt)
          have x0 : (0 : Int) ≤ (s[k].toNat : Int) := by omega
          have x1 : (s[k].toNat : Int) ≤ 255 := by have := s[k].toNat_lt; omega
          have v1 : v < 100000000000000000 := by have := HB.out; have := pow17 (k := k) (by omega); omega
          have HS : Hid (runD v (s.data.toList.drop k) = if (s[k].toNat : Int) < 48 ∨ 57 < (s[k].toNat : Int) then (0, false) else runD (10 * v + ((s[k].toNat : Int) - 48)) (s.data.toList.drop (k + 1))) := by
            unfold Hid; rw [HD.out]; rfl
          by_cases ha : (s[k].toNat : Int) < 48
          · have HX : Hid (numD s.data.toList = (0, false)) := by unfold Hid; rw [HF.out, ← HV.out, HS.out, if_pos (.inl ha)]
            go_wp2
            exact bodyPost_ret (v := .tuple #[.int .i64 0, .bool false]) (by simp [results, Tryd.results67, go_sem]) rfl ⟨by rw [HX.out], rfl⟩
          · by_cases hb : 57 < (s[k].toNat : Int)
            · have HX : Hid (numD s.data.toList = (0, false)) := by unfold Hid; rw [HF.out, ← HV.out, HS.out, if_pos (.inr hb)]
              go_wp2
              exact bodyPost_ret (v := .tuple #[.int .i64 0, .bool false]) (by simp [results, Tryd.results67, go_sem]) rfl ⟨by rw [HX.out], rfl⟩
            · have HX : Hid (runD (10 * v + ((s[k].toNat : Int) - 48)) (s.data.toList.drop (k + 1)) = runD 0 s.data.toList) := by
                unfold Hid; rw [← HV.out, HS.out, if_neg (by omega)]
              have HB2 : Hid (10 * v + ((s[k].toNat : Int) - 48) < 10 ^ (k + 1)) := by unfold Hid; have := HB.out; rw [Int.pow_succ]; omega
              go_wp2
              go_round
              case rel => exact ⟨k + 1, by omega, by go_num, _, rfl, by omega, HB2, HX⟩
              case measure => simp [intOf]; omega
        · obtain rfl : k = s.size := by omega
          have HX : Hid (numD s.data.toList = (v, true)) := by
            unfold Hid; rw [HF.out, ← HV.out, List.drop_eq_nil_of_le (by rw [← Lib.size_eq]; exact Nat.le_refl _)]; rfl
          go_wp2
          exact bodyPost_ret (v := .tuple #[.int .i64 v, .bool true]) (by simp [results, Tryd.results67, go_sem]) rfl ⟨by rw [HX.out], rfl⟩

/-- the variable that strings.Cut looks at -/
def MX (w : World) : Prop := (∃ m, w.cell? ⟨3, 0, Option.none⟩ = some (.int .i64 m)) ∧ 3 < w.heap.size
theorem MX.below {w w1 : World} (h : MX w) (hb : Below w.heap.size w w1) : MX w1 := by
  obtain ⟨⟨m, h3⟩, h4⟩ := h
  exact ⟨⟨m, by rw [hb.cell (p := ⟨3, 0, Option.none⟩) h4]; exact h3⟩, Nat.lt_of_lt_of_le h4 hb.size⟩

theorem cutx_any (s sep : ByteArray) (w : World) (hL : MX w) (hs : s.size < 4294967281) :
    Calls Tryd.prog 37 #[.string s, .string sep] w fun e w' => e = .returned (.tuple #[.string ⟨(Lib.cut s.data.toList sep.data.toList).1.toArray⟩, .string ⟨(Lib.cut s.data.toList sep.data.toList).2.1.toArray⟩, .bool (Lib.cut s.data.toList sep.data.toList).2.2]) ∧ Below w.heap.size w w' := by
  obtain ⟨m, hm⟩ := hL.1
  refine (Tryd.strings_Cut s sep m w hs hm).mono fun e w' ⟨he, n, hw⟩ => ⟨he, ?_⟩
  subst hw
  exact below_drewN (Below.refl _ _) _

/-- the range of an item -/
def rangeD (l : List UInt8) : Sp × Bool :=
  if (Lib.cut l [45]).2.2 = true ∧ (numD (Lib.cut l [45]).1).2 = true ∧ (numD (Lib.cut l [45]).2.1).2 = true ∧ srB (numD (Lib.cut l [45]).1).1 (numD (Lib.cut l [45]).2.1).1 = true then (((numD (Lib.cut l [45]).1).1, (numD (Lib.cut l [45]).2.1).1), true) else ((0, 0), false)

theorem lt_go4 {w w1 w2 : World} {o : Obj} (h : w.heap.size < w1.heap.size) (hb : Below (w1.alloc o).heap.size (w1.alloc o) w2) : w.heap.size < w2.heap.size ∧ w1.heap.size < w2.heap.size ∧ w.heap.size < w1.heap.size + 1 := by
  have := hb.size; simp only [World.size_alloc] at this; omega
theorem lt1' {w w1 : World} {o : Obj} (h : Below (w.alloc o).heap.size (w.alloc o) w1) : w.heap.size < w1.heap.size ∧ w.heap.size < w1.heap.size + 1 := by
  have := lt1 h; omega

set_option maxHeartbeats 4000000 in
theorem range_any (s : ByteArray) (w : World) (hL : MX w) (hs : s.size < 4294967281) :
    Calls Tryd.prog 40 #[.string s] w fun e w' => e = .returned (.tuple #[.agg #[.int .i64 (rangeD s.data.toList).1.1, .int .i64 (rangeD s.data.toList).1.2], .bool (rangeD s.data.toList).2]) ∧ Below w.heap.size w w' := by
  have hcut := fun W (h : MX W) => cutx_any s ⟨#[45]⟩ W h hs
  have hn1 := fun W => number_any ⟨(Lib.cut s.data.toList [45]).1.toArray⟩ W
  have hn2 := fun W => number_any ⟨(Lib.cut s.data.toList [45]).2.1.toArray⟩ W
  simp only at hcut hn1 hn2
  unfold rangeD
  generalize (Lib.cut s.data.toList [45]).2.2 = f at *
  generalize (Lib.cut s.data.toList [45]).1 = s1 at *
  generalize (Lib.cut s.data.toList [45]).2.1 = s2 at *
  generalize numD s1 = a at *
  generalize numD s2 = b at *
  obtain ⟨a, af⟩ := a
  obtain ⟨b, bf⟩ := b
  simp only at hn1 hn2 ⊢
  cases f with
  | false =>
    simp only [Bool.false_eq_true, false_and, if_false]
    go_enter Tryd.func40, Tryd.ntmps40
    go_wp2_with (first
      | (go_at_call 37; with_reducible refine (hcut _ (hL.below (by go_grown))).mono ?_; rintro e w1 ⟨rfl, hb1⟩; obtain ⟨hc1, hf1⟩ := bcell hb1; have hz1 := lt1' hb1; have B1 := bel (w := w) (by go_grown) hb1)
      | (go_at_call 67; first | (with_reducible refine (hn1 _).mono ?_; rintro e w2 ⟨rfl, rfl⟩) | (with_reducible refine (hn2 _).mono ?_; rintro e w3 ⟨rfl, rfl⟩)))
    exact bodyPost_ret (v := .tuple #[.agg #[.int .i64 0, .int .i64 0], .bool false]) (by simp [results, Tryd.results40, go_sem, hc1, hz1]) rfl ⟨rfl, by go_grown⟩
  | true =>
    cases af with
    | false =>
      simp only [Bool.false_eq_true, false_and, and_false, if_false]
      go_enter Tryd.func40, Tryd.ntmps40
      go_wp2_with (first
        | (go_at_call 37; with_reducible refine (hcut _ (hL.below (by go_grown))).mono ?_; rintro e w1 ⟨rfl, hb1⟩; obtain ⟨hc1, hf1⟩ := bcell hb1; have hz1 := lt1' hb1; have B1 := bel (w := w) (by go_grown) hb1)
        | (go_at_call 67; first | (with_reducible refine (hn1 _).mono ?_; rintro e w2 ⟨rfl, rfl⟩) | (with_reducible refine (hn2 _).mono ?_; rintro e w3 ⟨rfl, rfl⟩)))
      exact bodyPost_ret (v := .tuple #[.agg #[.int .i64 0, .int .i64 0], .bool false]) (by simp [results, Tryd.results40, go_sem, hc1, hz1]) rfl ⟨rfl, by go_grown⟩
    | true =>
      cases bf with
      | false =>
        simp only [Bool.false_eq_true, false_and, and_false, if_false]
        go_enter Tryd.func40, Tryd.ntmps40
        go_wp2_with (first
          | (go_at_call 37; with_reducible refine (hcut _ (hL.below (by go_grown))).mono ?_; rintro e w1 ⟨rfl, hb1⟩; obtain ⟨hc1, hf1⟩ := bcell hb1; have hz1 := lt1' hb1; have B1 := bel (w := w) (by go_grown) hb1)
          | (go_at_call 67; first | (with_reducible refine (hn1 _).mono ?_; rintro e w2 ⟨rfl, rfl⟩) | (with_reducible refine (hn2 _).mono ?_; rintro e w3 ⟨rfl, rfl⟩)))
        exact bodyPost_ret (v := .tuple #[.agg #[.int .i64 0, .int .i64 0], .bool false]) (by simp [results, Tryd.results40, go_sem, hc1, hz1]) rfl ⟨rfl, by go_grown⟩
      | true =>
        cases hr : srB a b with
        | false =>
          simp only [Bool.false_eq_true, and_false, if_false]
          go_enter Tryd.func40, Tryd.ntmps40
          go_wp2_with (first
            | (go_at_call 37; with_reducible refine (hcut _ (hL.below (by go_grown))).mono ?_; rintro e w1 ⟨rfl, hb1⟩; obtain ⟨hc1, hf1⟩ := bcell hb1; have hz1 := lt1' hb1; have B1 := bel (w := w) (by go_grown) hb1)
            | (go_at_call 67; first | (with_reducible refine (hn1 _).mono ?_; rintro e w2 ⟨rfl, rfl⟩) | (with_reducible refine (hn2 _).mono ?_; rintro e w3 ⟨rfl, rfl⟩))
            | (go_at_call 17; with_reducible refine (sright_any a b _).mono ?_; rintro e w4 ⟨rfl, hb4⟩; rw [hr]; obtain ⟨hc4, hf4⟩ := bcell hb4; have B4 := bel (w := w) (by go_grown) hb4))
          exact bodyPost_ret (v := .tuple #[.agg #[.int .i64 0, .int .i64 0], .bool false]) (by simp [results, Tryd.results40, go_sem, hc1, hz1, hc4]) rfl ⟨rfl, by go_grown⟩
        | true =>
          simp only [and_self, if_true]
          go_enter Tryd.func40, Tryd.ntmps40
          go_wp2_with (first
            | (go_at_call 37; with_reducible refine (hcut _ (hL.below (by go_grown))).mono ?_; rintro e w1 ⟨rfl, hb1⟩; obtain ⟨hc1, hf1⟩ := bcell hb1; have hz1 := lt1' hb1; have B1 := bel (w := w) (by go_grown) hb1)
            | (go_at_call 67; first | (with_reducible refine (hn1 _).mono ?_; rintro e w2 ⟨rfl, rfl⟩) | (with_reducible refine (hn2 _).mono ?_; rintro e w3 ⟨rfl, rfl⟩))
            | (go_at_call 17; with_reducible refine (sright_any a b _).mono ?_; rintro e w4 ⟨rfl, hb4⟩; rw [hr]; obtain ⟨hc4, hf4⟩ := bcell hb4; have B4 := bel (w := w) (by go_grown) hb4))
          exact bodyPost_ret (v := .tuple #[.agg #[.int .i64 a, .int .i64 b], .bool true]) (by simp [results, Tryd.results40, go_sem, hc1, hz1, hc4]) rfl ⟨rfl, by go_grown⟩
end Go.Proofs.YtdmkfleiipfbgaaDoor
