/-
  Blocks of fields, by the reference.
-/
import Derived.Test.YtmlbinbhicdljaaDoorEF
namespace Go.Proofs.YtmlbinbhicdljaaDoor
open Go Go.RowKit

set_option maxHeartbeats 8000000 in
set_option maxRecDepth 20000 in
theorem rput_any (A : Option Addr) (n c : Nat) (l : List Fd) (w : World) (hn : l.length = n) (hm : n ≤ 130) (hg : gsum l ≤ 12000) (hs : FdAt w w.heap.size A l) :
    Calls Tryd.prog 31 #[.slice A n c] w fun e w' => e = .returned (putV l) ∧ Below w.heap.size w w' := by
  have HS := Lib.hid hs
  have HL := Lib.hid hn
  have HG := Lib.hid hg
  have HM := Lib.hid (Mx.of_small hg)
  clear hs hn hg
  go_enter Tryd.func31, Tryd.ntmps31
  go_wp2
  go_loopw [4, 9] (fun vt i wr => ∃ (k : Nat) (t : ByteArray), k ≤ n ∧ i = .int .i64 k ∧ vt = .string t ∧ t.size ≤ 13000 ∧ Hid (t = ⟨(rowsL (l.take k)).toArray⟩) ∧ Hid ((l.take k).all rightD = true) ∧ Below w.heap.size w wr) (fun _ i _ => n - (intOf i).toNat)
  case atStart => exact ⟨0, ⟨#[]⟩, Nat.zero_le _, rfl, rfl, by show 0 ≤ _; omega, rfl, rfl, Below.refl _ _⟩
  case round =>
    obtain ⟨k, t, hk, rfl, rfl, hz, HZ, HA, hbel⟩ := hrel
    by_cases hlt : k < n
    · have hkl : k < l.length := by have := HL.out; omega
      obtain ⟨b, o, rfl, hb, hc⟩ := (HS.out.below hbel (Nat.le_refl _)) (by omega)
      obtain ⟨c0, c1⟩ := hc k hkl
      clear hc
      obtain ⟨hx, hy⟩ := HM.out.at0 hkl
      have HT := Lib.hid (rowsL_take hkl)
      have HT2 := Lib.hid (all_take hkl)
      have HB := Lib.hid (all_bad hkl)
      have HQ := Lib.hid (gsum_le (l := l) (k + 1))
      have HQ1 := Lib.hid (gsum_at (List.getElem_mem hkl))
      obtain ⟨X, hX⟩ : ∃ X, Hid (l[k] = X) := ⟨l[k], rfl⟩
      rw [hX.out] at HT HT2 HB HQ1 c0 c1 hx hy
      clear hX
      obtain ⟨x, y⟩ := X
      simp only at c0 c1 hx hy
      have hbz : b < wr.heap.size := by have := hbel.size; omega
      have hA := fun W => rright_any x y W hx hy
      have hwz := hbel.size
      cases hq : rightD (x, y) with
      | false =>
        have HF : Hid (putD l = (⟨#[]⟩, 2)) := by unfold Hid putD; rw [HB.out hq, if_neg Bool.false_ne_true]
        rw [hq] at hA
        clear HT HT2 HB HQ HQ1 hq HZ
        go_wp2_with (go_at_call 29; with_reducible refine (hA _).mono ?_; rintro e w1 ⟨rfl, hb1⟩; obtain ⟨k0, k1, f0, f1, lz, E1⟩ := one_cells hb1; have B1 := hbel.trans (E1.mono hwz))
        exact bodyPost_ret (v := .tuple #[.string ⟨#[]⟩, .int .i64 2]) (by simp [results, Tryd.results31, go_sem]) rfl ⟨by unfold putV; rw [HF.out], B1⟩
      | true =>
        have h12 : x.size + y.size ≤ 12000 := by have h := HQ1.out; simp only at h; have := HG.out; omega
        have hK : ((((t ++ x) ++ ⟨#[58, 32]⟩) ++ y) ++ ⟨#[13, 10]⟩ : ByteArray) = ⟨(rowsL (l.take (k + 1))).toArray⟩ := by rw [HZ.out, row_text, HT.out]
        have hKz : ((((t ++ x) ++ ⟨#[58, 32]⟩) ++ y) ++ ⟨#[13, 10]⟩ : ByteArray).size ≤ 13000 := by
          rw [hK, ba_size, rowsL_len, List.length_take]; have := HQ.out; have := HG.out; omega
        have HK := Lib.hid hK
        have HKz := Lib.hid hKz
        have HK2 : Hid ((l.take (k + 1)).all rightD = true) := by unfold Hid; rw [HT2.out, HA.out, hq]; rfl
        rw [hq] at hA
        clear HT HT2 HB HQ HQ1 hq HZ HA hK hKz
        go_wp2_with (go_at_call 29; with_reducible refine (hA _).mono ?_; rintro e w1 ⟨rfl, hb1⟩; obtain ⟨k0, k1, f0, f1, lz, E1⟩ := one_cells hb1; have B1 := hbel.trans (E1.mono hwz))
        go_roundw
        case rel => exact ⟨k + 1, _, by omega, by go_num, rfl, HKz.out, HK, HK2, B1⟩
        case measure => simp [intOf]; omega
    · obtain rfl : k = n := by omega
      have HAl : Hid (l.all rightD = true) := by have h := HA.out; rwa [List.take_of_length_le (by have := HL.out; omega)] at h
      have HE : Hid (t ++ ⟨#[13, 10]⟩ = ⟨(blockL l).toArray⟩) := by
        unfold Hid; rw [HZ.out, List.take_of_length_le (by have := HL.out; omega), end_text]; rfl
      have sz2 : (⟨#[13, 10]⟩ : ByteArray).size = 2 := rfl
      by_cases h100 : 100 < k
      · have HF : Hid (putD l = (⟨#[]⟩, 4)) := by unfold Hid putD; rw [if_pos HAl.out, HL.out, if_pos h100]
        clear HZ HA HAl HE
        go_wp2_with fail
        exact bodyPost_ret (v := .tuple #[.string ⟨#[]⟩, .int .i64 4]) (by simp [results, Tryd.results31, go_sem]) rfl ⟨by unfold putV; rw [HF.out], hbel⟩
      · have HF : Hid (putD l = (⟨(blockL l).toArray⟩, 0)) := by
          unfold Hid putD; rw [if_pos HAl.out, HL.out, if_neg h100, if_neg]
          rw [blockL_len]; have := HG.out; have := HL.out; omega
        clear HZ HA HAl
        go_wp2_with fail
        exact bodyPost_ret (v := .tuple #[.string (t ++ ⟨#[13, 10]⟩), .int .i64 0]) (by simp [results, Tryd.results31, go_sem]) rfl ⟨by unfold putV; rw [HF.out, HE.out], hbel⟩
end Go.Proofs.YtmlbinbhicdljaaDoor
