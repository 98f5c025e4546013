/-
  How many bytes a set has: Set.Len and the reference's Len.
-/
import Derived.Test.YtoimoalkihjcfaaDoorRY
namespace Go.Proofs.YtoimoalkihjcfaaDoor
open Go Go.RowKit

/-- the first k spans' bytes -/
def sumK (l : List Sp) (k : Nat) : Int := ((l.take k).map fun x => x.2 - x.1).sum
theorem sumK_zero (l : List Sp) : sumK l 0 = 0 := rfl
theorem sumK_succ {l : List Sp} {k : Nat} (h : k < l.length) : sumK l (k + 1) = sumK l k + (l[k].2 - l[k].1) := by
  unfold sumK; rw [List.take_succ_eq_append_getElem h, List.map_append, List.sum_append]; simp only [List.map_cons, List.map_nil, List.sum_cons, List.sum_nil]; omega
theorem sumK_le {l : List Sp} (hc : Canon l) : ∀ (k : Nat) (h : k < l.length), 0 ≤ sumK l k ∧ sumK l k ≤ l[k].1
  | 0, h => by have := hc.at_ h; rw [sumK_zero]; omega
  | k + 1, h => by
    have ih := sumK_le hc k (Nat.lt_of_succ_lt h)
    have h1 := hc.at_ (Nat.lt_of_succ_lt h)
    have h2 : l[k].2 < l[k + 1].1 := hc.rise (Nat.lt_succ_self k) h
    rw [sumK_succ (Nat.lt_of_succ_lt h)]; omega
/-- how many bytes -/
def bytesL (l : List Sp) : Int := if l.any (fun x => x.2 == 4611686018427387904) then 4611686018427387904 else sumK l l.length
theorem bytes_open {l : List Sp} {k : Nat} (h : k < l.length) (e : l[k].2 = 4611686018427387904) : bytesL l = 4611686018427387904 := by
  unfold bytesL; rw [if_pos]
  exact List.any_eq_true.2 ⟨l[k], List.getElem_mem h, by simp [e]⟩
theorem bytes_shut {l : List Sp} (h : ∀ j (hj : j < l.length), l[j].2 ≠ 4611686018427387904) : bytesL l = sumK l l.length := by
  unfold bytesL; rw [if_neg]
  intro hh
  obtain ⟨x, hx, e⟩ := List.any_eq_true.1 hh
  obtain ⟨j, hj, rfl⟩ := List.getElem_of_mem hx
  exact h j hj (by simpa using e)

set_option maxHeartbeats 4000000 in
set_option maxRecDepth 100000 in
theorem rLen_any (A : Option Addr) (n c : Nat) (l : List Sp) (w : World) (hn : l.length = n) (hm : n ≤ 1000000) (hca : Canon l) (hs : SpAt w w.heap.size A l) :
    Calls Tryd.prog 20 #[.slice A n c] w fun e w' => e = .returned (.int .i64 (bytesL l)) ∧ Below w.heap.size w w' := by
  have HS := Lib.hid hs
  have HN := Lib.hid hn
  have HC := Lib.hid hca
  clear hs hn hca
  go_enter Tryd.func20, Tryd.ntmps20
  go_wp2
  go_loopw [3, 4] (fun s i wr => ∃ k : Nat, k ≤ n ∧ i = .int .i64 k ∧ s = .int .i64 (sumK l k) ∧ Hid (∀ j (hj : j < l.length), j < k → l[j].2 ≠ 4611686018427387904) ∧ Below w.heap.size w wr) (fun _ i _ => n - (intOf i).toNat)
  case atStart => exact ⟨0, Nat.zero_le _, rfl, rfl, fun j _ h => absurd h (Nat.not_lt_zero _), Below.refl _ _⟩
  case round =>
    obtain ⟨k, hk, rfl, rfl, HG, hbel⟩ := hrel
    by_cases hlt : k < n
    · have hkl : k < l.length := by have := HN.out; omega
      obtain ⟨b, o, rfl, hbb, hc⟩ := (HS.out.below hbel (Nat.le_refl _)) (by omega)
      obtain ⟨c0, c1⟩ := hc k hkl
      clear hc
      have hsu := sumK_succ hkl
      have hsl := sumK_le HC.out k hkl
      have hat := HC.out.at_ hkl
      have hop := fun e => bytes_open hkl e
      have HX : Hid (l[k].2 ≠ 4611686018427387904 → ∀ j (hj : j < l.length), j < k + 1 → l[j].2 ≠ 4611686018427387904) := fun hne j hj h => by
        by_cases e : j = k
        · subst e; exact hne
        · exact HG.out j hj (by omega)
      have HO := Lib.hid hop
      generalize l[k] = X at *
      obtain ⟨x, y⟩ := X
      simp only at HX HO c0 c1 hsu hsl hat hop
      clear hop
      generalize hsk : sumK l k = S at *
      clear hsk
      have hbz : b < wr.heap.size := by have := hbel.size; omega
      have q1 : (k : Int) < (n : Int) := by omega
      have q2 : (0 : Int) ≤ (k : Int) := by omega
      by_cases hy : y = 4611686018427387904
      · subst hy
        have HF : Hid (bytesL l = 4611686018427387904) := HO.out rfl
        clear HX HO HG hsu
        go_wp2
        go_ret
        exact ⟨by rw [HF.out]; rfl, hbel⟩
      · have HF := Lib.hid (HX.out hy)
        clear HX HO HG
        have w1 : IntKind.i64.wrap (S + y) = S + y := IntWalk.i64_in _ (by omega)
        have w2 : IntKind.i64.wrap (S + y - x) = S + y - x := IntWalk.i64_in _ (by omega)
        have HU : Hid (S + y - x = sumK l (k + 1)) := by unfold Hid; omega
        clear hsu
        go_wp2_with fail
        go_quiet (fail)
        have B2 := below_drewN hbel nq
        go_wp2_with fail
        go_roundw
        case rel => exact ⟨k + 1, by omega, by go_num, by rw [HU.out], HF, B2⟩
        case measure => simp [intOf]; omega
    · obtain rfl : k = n := by omega
      have HF : Hid (sumK l k = bytesL l) := by
        unfold Hid
        rw [bytes_shut fun j hj => HG.out j hj (by have := HN.out; omega), HN.out]
      clear HG
      go_wp2
      go_ret
      exact ⟨by rw [HF.out]; rfl, hbel⟩

set_option maxHeartbeats 4000000 in
set_option maxRecDepth 100000 in
theorem Len_any (A : Option Addr) (n c : Nat) (l : List Sp) (w : World) (hn : l.length = n) (hm : n ≤ 1000000) (hca : Canon l) (hs : SpAt w w.heap.size A l) :
    Calls Tryd.prog 19 #[.agg #[.slice A n c]] w fun e w' => e = .returned (.int .i64 (bytesL l)) ∧ Below w.heap.size w w' := by
  have HS := Lib.hid hs
  have HN := Lib.hid hn
  have HC := Lib.hid hca
  clear hs hn hca
  go_enter Tryd.func19, Tryd.ntmps19
  go_wp2
  go_loopw [3, 9] (fun s i wr => ∃ k : Nat, k ≤ n ∧ i = .int .i64 k ∧ s = .int .i64 (sumK l k) ∧ Hid (∀ j (hj : j < l.length), j < k → l[j].2 ≠ 4611686018427387904) ∧ Below w.heap.size w wr) (fun _ i _ => n - (intOf i).toNat)
  case atStart => exact ⟨0, Nat.zero_le _, rfl, rfl, fun j _ h => absurd h (Nat.not_lt_zero _), (Below.refl _ _).alloc (Nat.le_refl _) _⟩
  case round =>
    obtain ⟨k, hk, rfl, rfl, HG, hbel⟩ := hrel
    by_cases hlt : k < n
    · have hkl : k < l.length := by have := HN.out; omega
      obtain ⟨b, o, rfl, hbb, hc⟩ := (HS.out.below hbel (Nat.le_refl _)) (by omega)
      obtain ⟨c0, c1⟩ := hc k hkl
      clear hc
      have hsu := sumK_succ hkl
      have hsl := sumK_le HC.out k hkl
      have hat := HC.out.at_ hkl
      have hop := fun e => bytes_open hkl e
      have HX : Hid (l[k].2 ≠ 4611686018427387904 → ∀ j (hj : j < l.length), j < k + 1 → l[j].2 ≠ 4611686018427387904) := fun hne j hj h => by
        by_cases e : j = k
        · subst e; exact hne
        · exact HG.out j hj (by omega)
      have HO := Lib.hid hop
      generalize l[k] = X at *
      obtain ⟨x, y⟩ := X
      simp only at HX HO c0 c1 hsu hsl hat hop
      clear hop
      generalize hsk : sumK l k = S at *
      clear hsk
      have hbz : b < wr.heap.size := by have := hbel.size; omega
      have e1 : Below w.heap.size w (wr.alloc (.cells #[.int .i64 x, .int .i64 y] 33)) := hbel.alloc hbel.size _
      by_cases hy : y = 4611686018427387904
      · subst hy
        have HF : Hid (bytesL l = 4611686018427387904) := HO.out rfl
        clear HX HO HG hsu
        go_wp2
        go_ret
        exact ⟨by rw [HF.out]; rfl, e1⟩
      · have HF := Lib.hid (HX.out hy)
        clear HX HO HG
        have w1 : IntKind.i64.wrap (S + (y - x)) = S + (y - x) := IntWalk.i64_in _ (by omega)
        have HU : Hid (S + (y - x) = sumK l (k + 1)) := by unfold Hid; omega
        have hlen := fun W => len_any x y W
        have hl : lenI x y = y - x := by
          have hr : rtB x y = true := rtB_mk (by omega)
          simp [lenI, hr, opB, hy]
        rw [hl] at hlen
        clear hsu hl
        go_wp2_with (go_at_call 39; with_reducible refine (hlen _).mono ?_; rintro e w1 ⟨rfl, hb1⟩; have B1 := bel e1 hb1; clear hb1 hlen)
        go_roundw
        case rel => exact ⟨k + 1, by omega, by go_num, by rw [HU.out], HF, B1⟩
        case measure => simp [intOf]; omega
    · obtain rfl : k = n := by omega
      have HF : Hid (sumK l k = bytesL l) := by
        unfold Hid
        rw [bytes_shut fun j hj => HG.out j hj (by have := HN.out; omega), HN.out]
      clear HG
      go_wp2
      go_ret
      exact ⟨by rw [HF.out]; rfl, hbel⟩
theorem Len_set {W : World} {v : Value} {l : List Sp} (h : IsSet W v l) (hm : l.length ≤ 1000000) :
    Calls Tryd.prog 19 #[v] W fun e w' => e = .returned (.int .i64 (bytesL l)) ∧ Below W.heap.size W w' := by
  obtain ⟨A, n, c, rfl, HN, _, HS, HC⟩ := h.split
  exact Len_any A n c l W HN.out (by have := HN.out; omega) HC.out HS.out
theorem rLen_sp {W : World} {v : Value} {l : List Sp} (h : IsSp W v l) (hca : Canon l) (hm : l.length ≤ 1000000) :
    Calls Tryd.prog 20 #[v] W fun e w' => e = .returned (.int .i64 (bytesL l)) ∧ Below W.heap.size W w' := by
  obtain ⟨A, n, c, rfl, HN, _, HS⟩ := h.split
  exact rLen_any A n c l W HN.out (by have := HN.out; omega) hca HS
end Go.Proofs.YtoimoalkihjcfaaDoor
