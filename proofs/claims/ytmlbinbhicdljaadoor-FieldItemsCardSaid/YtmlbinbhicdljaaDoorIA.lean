/-
  The program's parting of values into items.
-/
import Derived.Test.YtmlbinbhicdljaaDoorIM
import Derived.Test.YtmlbinbhicdljaaDoorEE
namespace Go.Proofs.YtmlbinbhicdljaaDoor
open Go Go.RowKit

/-- where a quoted text ends -/
def EndAt (s : ByteArray) (i j : Nat) : Prop :=
  i ≤ j ∧ ((j < s.size ∧ CutAt s (j + 1) false false) ∨ (s.size ≤ j ∧ j ≤ s.size + 1 ∧ cutI false false s.data.toList = (s.data.toList, [], false)))
/-- how far the search for it is -/
def InAt (s : ByteArray) (i : Nat) : Prop := (i ≤ s.size ∧ CutAt s i true false) ∨ (i = s.size + 1 ∧ cutI false false s.data.toList = (s.data.toList, [], false))
theorem InAt.quote {s : ByteArray} {i : Nat} (h : InAt s i) (hi : i < s.size) (hx : s[i].toNat = 34) : EndAt s i i := by
  rcases h with ⟨_, h⟩ | ⟨e, _⟩
  · have := h.more hi (by simp)
    rw [(u8_iff _ 34 (by omega)).2 hx] at this
    exact ⟨Nat.le_refl _, .inl ⟨hi, this⟩⟩
  · omega
theorem InAt.slash {s : ByteArray} {i : Nat} (h : InAt s i) (hi : i < s.size) (hx : s[i].toNat = 92) : InAt s (i + 2) := by
  rcases h with ⟨_, h⟩ | ⟨e, _⟩
  · have h1 := h.more hi (by simp)
    rw [(u8_iff _ 92 (by omega)).2 hx] at h1
    by_cases h2 : i + 1 < s.size
    · have h3 := CutAt.more (q := true) (n := true) h1 h2 (by simp)
      exact .inl ⟨by omega, h3⟩
    · have e : i + 1 = s.size := by omega
      rw [e] at h1
      exact .inr ⟨by omega, CutAt.fin h1⟩
  · omega
theorem InAt.other {s : ByteArray} {i : Nat} (h : InAt s i) (hi : i < s.size) (h1 : s[i].toNat ≠ 34) (h2 : s[i].toNat ≠ 92) : InAt s (i + 1) := by
  rcases h with ⟨_, h⟩ | ⟨e, _⟩
  · have h3 := h.more hi (by simp)
    have e : stepQ true false s[i] = (true, false) := by
      unfold stepQ
      rw [if_neg (by simp), if_neg (fun e => h2 ((u8_iff _ 92 (by omega)).1 e.2)), if_neg (show ¬ s[i] = (34 : UInt8) from fun e => h1 ((u8_iff _ 34 (by omega)).1 e))]
    rw [e] at h3
    exact .inl ⟨by omega, h3⟩
  · omega
theorem InAt.fin {s : ByteArray} {i : Nat} (h : InAt s i) (hi : ¬ i < s.size) : EndAt s i i := by
  rcases h with ⟨h0, h⟩ | ⟨e, h⟩
  · obtain rfl : i = s.size := by omega
    exact ⟨Nat.le_refl _, .inr ⟨Nat.le_refl _, by omega, h.fin⟩⟩
  · exact ⟨Nat.le_refl _, .inr ⟨by omega, by omega, h⟩⟩

set_option maxHeartbeats 2000000 in
theorem quoteEnd_any (s : ByteArray) (i : Nat) (w : World) (hs : s.size ≤ 1000000) (hi : InAt s i) :
    Calls Tryd.prog 58 #[.string s, .int .i64 i] w fun e w' => ∃ j : Nat, e = .returned (.int .i64 j) ∧ EndAt s i j ∧ w' = w := by
  have HI := Lib.hid hi
  clear hi
  go_enter Tryd.func58, Tryd.ntmps58
  go_wp2
  go_loop [1] (fun v => ∃ k : Nat, v = .int .i64 k ∧ i ≤ k ∧ k ≤ s.size + 1 ∧ Hid (InAt s k)) (fun v => s.size + 1 - (intOf v).toNat)
  case atStart => exact ⟨i, rfl, Nat.le_refl _, by rcases HI.out with ⟨h, _⟩ | ⟨h, _⟩ <;> omega, HI⟩
  case round =>
    obtain ⟨k, rfl, hik, hk, HG⟩ := hrel
    by_cases hlt : k < s.size
    · have H1 := Lib.hid (HG.out.quote hlt)
      have H2 := Lib.hid (HG.out.slash hlt)
      have H3 := Lib.hid (HG.out.other hlt)
      generalize hx : s[k].toNat = x at *
      by_cases g1 : x = 34
      · have HF : Hid (EndAt s i k) := ⟨hik, (H1.out g1).2⟩
        have b1 : ((x : Int) != 34) = false := by rw [bne_eq_false_iff_eq]; omega
        clear H1 H2 H3 HG HI g1
        go_wp2
        go_ret
        exact ⟨k, rfl, HF.out, rfl⟩
      · have b1 : ((x : Int) != 34) = true := by rw [bne_iff_ne]; omega
        by_cases g2 : x = 92
        · have HK : Hid (InAt s (k + 2)) := H2.out g2
          have b2 : ((x : Int) == 92) = true := beqi_t (by omega)
          clear H1 H2 H3 HG HI g1 g2
          go_wp2
          go_round
          case rel => exact ⟨k + 2, by go_num, by omega, by omega, HK⟩
          case measure => simp [intOf]; omega
        · have HK : Hid (InAt s (k + 1)) := H3.out g1 g2
          have b2 : ((x : Int) == 92) = false := beqi_f (by omega)
          clear H1 H2 H3 HG HI g1 g2
          go_wp2
          go_round
          case rel => exact ⟨k + 1, by go_num, by omega, by omega, HK⟩
          case measure => simp [intOf]; omega
    · have HF : Hid (EndAt s i k) := ⟨hik, (HG.out.fin hlt).2⟩
      clear HG HI
      go_wp2
      go_ret
      exact ⟨k, rfl, HF.out, rfl⟩

abbrev cutV (s : List UInt8) : Value := .tuple #[.string ⟨(cutI false false s).1.toArray⟩, .string ⟨(cutI false false s).2.1.toArray⟩, .bool (cutI false false s).2.2]
def OutAt (s : ByteArray) (i : Nat) : Prop := (i ≤ s.size ∧ CutAt s i false false) ∨ (s.size < i ∧ cutI false false s.data.toList = (s.data.toList, [], false))
theorem OutAt.fin {s : ByteArray} {i : Nat} (h : OutAt s i) (hi : ¬ i < s.size) : cutI false false s.data.toList = (s.data.toList, [], false) := by
  rcases h with ⟨h0, h⟩ | ⟨_, h⟩
  · obtain rfl : i = s.size := by omega
    exact h.fin
  · exact h
theorem OutAt.here {s : ByteArray} {i : Nat} (h : OutAt s i) (hi : i < s.size) : CutAt s i false false := by
  rcases h with ⟨_, h⟩ | ⟨h0, _⟩
  · exact h
  · omega
theorem OutAt.next {s : ByteArray} {i j : Nat} (h : EndAt s i j) : OutAt s (j + 1) ∧ j ≤ s.size + 1 := by
  rcases h.2 with ⟨h1, h2⟩ | ⟨h1, h2, h3⟩
  · exact ⟨.inl ⟨by omega, h2⟩, by omega⟩
  · exact ⟨.inr ⟨by omega, h3⟩, h2⟩

set_option maxHeartbeats 4000000 in
theorem cutItem_any (s : ByteArray) (w : World) (hs : s.size ≤ 1000000) :
    Calls Tryd.prog 41 #[.string s] w fun e w' => e = .returned (cutV s.data.toList) ∧ Below w.heap.size w w' := by
  obtain ⟨D, HD⟩ : ∃ D, Hid (cutI false false s.data.toList = D) := ⟨_, rfl⟩
  unfold cutV
  rw [HD.out]
  go_enter Tryd.func41, Tryd.ntmps41
  go_wp2
  go_loopw [5] (fun v wr => ∃ k : Nat, v = .int .i64 k ∧ k ≤ s.size + 2 ∧ Hid (OutAt s k) ∧ Below w.heap.size w wr) (fun v _ => s.size + 2 - (intOf v).toNat)
  case atStart => exact ⟨0, rfl, Nat.zero_le _, .inl ⟨Nat.zero_le _, CutAt.zero s⟩, Below.refl _ _⟩
  case round =>
    obtain ⟨k, rfl, hk, HG, hbel⟩ := hrel
    by_cases hlt : k < s.size
    · have HC := Lib.hid (HG.out.here hlt)
      have d0 : (0 : Int) ≤ (k : Int) := by omega
      have d1 : (k : Int) ≤ (s.size : Int) := by omega
      have d3 : (0 : Int) ≤ (k : Int) + 1 := by omega
      have d4 : (k : Int) + 1 ≤ (s.size : Int) := by omega
      have d2 : IntKind.i64.wrap ((k : Int) + 1) = (k : Int) + 1 := IntWalk.i64_in _ (by omega)
      have d5 : ((k : Int) + 1).toNat = k + 1 := by omega
      clear HG
      by_cases g1 : s[k].toNat = 34
      · have HI : Hid (InAt s (k + 1)) := by
          have h := HC.out.more hlt (by rw [(u8_iff _ 34 (by omega)).2 g1]; decide)
          rw [(u8_iff _ 34 (by omega)).2 g1] at h
          exact .inl ⟨by omega, h⟩
        have hQ := fun W => quoteEnd_any s (k + 1) W hs HI.out
        have u0 : ((k + 1 : Nat) : Int) = (k : Int) + 1 := by omega
        rw [u0] at hQ
        have b1 : ((s[k].toNat : Int) == 34) = true := beqi_t (by omega)
        clear HC HI g1 u0
        go_wp2_with fail
        with_reducible refine (hQ _).mono ?_
        rintro e w1 ⟨j, rfl, hj, rfl⟩
        have HJ := Lib.hid hj
        have hj1 := hj.1
        have hj2 := (OutAt.next hj).2
        clear hj hQ
        go_wp2_with fail
        go_roundw
        case rel => exact ⟨j + 1, by go_num, by omega, (OutAt.next HJ.out).1, hbel⟩
        case measure => simp [intOf]; omega
      · have b1 : ((s[k].toNat : Int) == 34) = false := beqi_f (by omega)
        by_cases g2 : s[k].toNat = 44
        · have HF : Hid (D = ((s.extract 0 k).data.toList, (s.extract (k + 1) s.size).data.toList, true)) := by
            unfold Hid; rw [← HD.out]; exact HC.out.cut hlt ((u8_iff _ 44 (by omega)).2 g2)
          have b2 : ((s[k].toNat : Int) == 44) = true := beqi_t (by omega)
          clear HC HD g1 g2
          go_wp2_with fail
          go_quiet (fail)
          go_wp2_with fail
          exact bodyPost_ret (v := .tuple #[.string (s.extract 0 k), .string (s.extract (k + 1) s.size), .bool true]) (by simp [results, Tryd.results41, go_sem]) rfl ⟨by rw [HF.out], below_drewN hbel _⟩
        · have b2 : ((s[k].toNat : Int) == 44) = false := beqi_f (by omega)
          have HK : Hid (OutAt s (k + 1)) := by
            have h := HC.out.more hlt (fun e => g2 ((u8_iff _ 44 (by omega)).1 e.1))
            have e : stepQ false false s[k] = (false, false) := by
              unfold stepQ
              rw [if_neg (by simp), if_neg (by simp), if_neg (show ¬ s[k] = (34 : UInt8) from fun e => g1 ((u8_iff _ 34 (by omega)).1 e))]
            rw [e] at h
            exact .inl ⟨by omega, h⟩
          clear HC g1 g2
          go_wp2_with fail
          go_roundw
          case rel => exact ⟨k + 1, by go_num, by omega, HK, hbel⟩
          case measure => simp [intOf]; omega
    · have HF : Hid (D = (s.data.toList, [], false)) := by unfold Hid; rw [← HD.out]; exact HG.out.fin hlt
      clear HG HD
      go_wp2_with fail
      exact bodyPost_ret (v := .tuple #[.string s, .string ⟨#[]⟩, .bool false]) (by simp [results, Tryd.results41, go_sem]) rfl ⟨by rw [HF.out], hbel⟩
end Go.Proofs.YtmlbinbhicdljaaDoor
