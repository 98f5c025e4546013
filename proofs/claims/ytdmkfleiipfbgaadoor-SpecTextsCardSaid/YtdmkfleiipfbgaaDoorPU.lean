/-
  The text of a number; the reference's text of ranges.
-/
import Derived.LaidMore
import Derived.Lib.LaidTab
import Derived.Lib.SmallJoins
import Derived.Stop.LaidErr
import Derived.Lib.AppendIntMem
import Derived.Test.YtdmkfleiipfbgaaDoorPT
import Derived.Test.YtdmkfleiipfbgaaDoorPG
namespace Go.Proofs.YtdmkfleiipfbgaaDoor
open Go Go.RowKit

theorem gTab : Tryd.prog.globalNamed "internal/strconv.uint64pow10" = some 6 := by kernel_rfl
/-- the library's powers of ten -/
def TB (w : World) : Prop := Lib.TabIs Tryd.prog w "internal/strconv.uint64pow10" .u64 Lib.pow10Tab ∧ 6 < w.heap.size
theorem TB.at_ {w W : World} {B : Nat} (h : TB w) (hB : 6 < B) (hb : Below B w W) : TB W :=
  ⟨var?_below hb gTab hB h.1, Nat.lt_of_lt_of_le h.2 hb.size⟩
theorem TB.below {w W : World} (h : TB w) (hb : Below w.heap.size w W) : TB W := h.at_ h.2 hb

theorem fmt_any (n : Int) (w : World) (hL : TB w) (h0 : -9223372036854775808 ≤ n) (h1 : n ≤ 9223372036854775807) :
    Calls Tryd.prog 69 #[.int .i64 n, .int .i64 10] w fun e w' => e = .returned (.string ⟨(Lib.itoa n).toArray⟩) ∧ Below w.heap.size w w' := by
  refine (Tryd.strconv_FormatInt_10 n h0 h1 w hL.1).mono fun e w' ⟨he, k, os, hw⟩ => ⟨he, ?_⟩
  subst hw
  exact Lib.below_grow _ _ (Nat.le_refl _) _ _

set_option maxHeartbeats 800000 in
theorem numtext_any (n : Int) (w : World) (hL : TB w) (h0 : -1 ≤ n) (h1 : n ≤ 999999999999999999) :
    Calls Tryd.prog 44 #[.int .i64 n] w fun e w' => e = .returned (.string ⟨(numT n).toArray⟩) ∧ Below w.heap.size w w' := by
  by_cases h : n = -1
  · subst h
    go_enter Tryd.func44, Tryd.ntmps44
    go_wp2
    go_ret
    exact ⟨rfl, Below.refl _ _⟩
  · have hb : (n == -1) = false := by simpa using h
    have HF : Hid (numT n = Lib.itoa n) := by unfold Hid numT; rw [if_neg h]
    go_enter Tryd.func44, Tryd.ntmps44
    go_wp2_with (go_at_call 69; refine (fmt_any n _ hL (by omega) (by omega)).mono ?_; rintro e w1 ⟨rfl, hb1⟩)
    go_ret
    exact ⟨by rw [HF.out]; rfl, hb1⟩

/-- a text of ranges, or what is wrong -/
def textD (l : List Sp) : List UInt8 × Int := if l.length = 0 then ([], 1) else if allR l = false then ([], 1) else if 64 < l.length then ([], 4) else (textT l, 0)

theorem ba_snoc (l m : List UInt8) (B : ByteArray) (h : B = ⟨l.toArray⟩) : B ++ ⟨m.toArray⟩ = ⟨(l ++ m).toArray⟩ := by rw [h, ba_append]
def accT (l : List Sp) : List UInt8 := [98, 121, 116, 101, 115, 61] ++ itemsT l
theorem accT_len {l : List Sp} (hr : SRL l) : (accT l).length ≤ 6 + 38 * l.length := by
  have := items_len l hr; unfold accT; simp; omega
theorem accT_snoc (l : List Sp) (x : Sp) : accT (l ++ [x]) = accT l ++ (if l = [] then [] else [44]) ++ numT x.1 ++ [45] ++ numT x.2 := by
  unfold accT
  rw [items_snoc]
  by_cases h : l = []
  · subst h; simp [itemsT, itemT]
  · rw [if_neg h, if_neg h]; simp [itemT]

set_option maxHeartbeats 8000000 in
theorem rtext_any (A : Option Addr) (n c : Nat) (l : List Sp) (w : World) (hn : l.length = n) (hm : n ≤ 100) (hs : SpAt w w.heap.size A l) :
    Calls Tryd.prog 16 #[.slice A n c] w fun e w' => e = .returned (.tuple #[.string ⟨(textD l).1.toArray⟩, .int .i64 (textD l).2]) ∧ Below w.heap.size w w' := by
  have HS := Lib.hid hs
  clear hs
  have HL := Lib.hid hn
  clear hn
  by_cases h0 : n = 0
  · subst h0
    have HD : Hid (textD l = ([], 1)) := by unfold Hid textD; rw [if_pos HL.out]
    go_enter Tryd.func16, Tryd.ntmps16
    go_wp2
    exact bodyPost_ret (v := .tuple #[.string ⟨#[]⟩, .int .i64 1]) (by simp [results, Tryd.results16, go_sem]) rfl ⟨by rw [HD.out], Below.refl _ _⟩
  · have hn0 : ((n : Int) == 0) = false := by rw [beq_eq_false_iff_ne]; omega
    go_enter Tryd.func16, Tryd.ntmps16
    go_wp2
    go_loopw [4, 12] (fun v i wr => ∃ (k : Nat) (S : ByteArray), k ≤ n ∧ i = .int .i64 k ∧ v = .string S ∧ Hid (S = ⟨(accT (l.take k)).toArray⟩) ∧ Hid (allR (l.take k) = true) ∧ Below w.heap.size w wr) (fun _ i _ => n - (intOf i).toNat)
    case atStart => exact ⟨0, _, Nat.zero_le _, rfl, rfl, rfl, rfl, Below.refl _ _⟩
    case round =>
      obtain ⟨k, S, hk, rfl, rfl, HS0, HR0, hbel⟩ := hrel
      have hsz : S.size ≤ 6000 := by
        rw [HS0.out, ba_size]
        have := accT_len (l := l.take k) (SRL.of HR0.out)
        rw [List.length_take] at this; omega
      by_cases hlt : k < n
      · have hkl : k < l.length := by have := HL.out; omega
        obtain ⟨b0, o, rfl, hbb, hc⟩ := (HS.out.below hbel (Nat.le_refl _)) (by omega)
        obtain ⟨c0, c1⟩ := hc k hkl
        clear hc
        have HRT := Lib.hid (allR_take hkl)
        have HRA := Lib.hid (fun h => allR_at hkl h)
        have HT : Hid (accT (l.take (k + 1)) = accT (l.take k) ++ (if l.take k = [] then [] else [44]) ++ numT l[k].1 ++ [45] ++ numT l[k].2) := by
          unfold Hid; rw [List.take_succ_eq_append_getElem hkl, accT_snoc]
        generalize l[k] = X at *
        obtain ⟨a, b⟩ := X
        simp only at c0 c1 HRT HRA HT
        have hwz := hbel.size
        have hbz : b0 < wr.heap.size := by omega
        have e1 : Ext wr (wr.alloc (.cells #[.int .i64 a, .int .i64 b] 32)) := (Below.refl _ _).alloc (Nat.le_refl _) _
        cases hr : srB a b with
        | false =>
          have HD : Hid (textD l = ([], 1)) := by unfold Hid textD; rw [if_neg (by have := HL.out; omega), if_pos (HRA.out hr)]
          clear HRT HRA HT
          go_wp2_with (go_at_call 18; with_reducible refine (rsright_any a b _).mono ?_; rintro e w1 ⟨rfl, hb1⟩; rw [hr]; have B1 := Ext.tr hbel (Ext.tr e1 hb1); clear hb1)
          exact bodyPost_ret (v := .tuple #[.string ⟨#[]⟩, .int .i64 1]) (by simp [results, Tryd.results16, go_sem]) rfl ⟨by rw [HD.out], B1⟩
        | true =>
          have hsrt := hr
          have hsr : -1 ≤ a ∧ a ≤ 999999999999999999 ∧ -1 ≤ b ∧ b ≤ 999999999999999999 := SR.of hr
          have HRk : Hid (allR (l.take (k + 1)) = true) := by unfold Hid; rw [HRT.out, HR0.out, hr]; rfl
          have la := fun h => itoa_len (a := a) h (by omega)
          have lb := fun h => itoa_len (a := b) h (by omega)
          clear HRT HRA
          by_cases hk0 : k = 0
          · subst hk0
            simp only [Nat.zero_mul, Nat.add_zero] at c0 c1
            have HKE : Hid (l.take 0 = []) := rfl
            by_cases ha : a = -1
            · subst ha
              have HNA : Hid (numT (-1) = []) := rfl
              by_cases hb : b = -1
              · subst hb
                have HNB : Hid (numT (-1) = []) := rfl
                exact absurd hsrt (by decide)
              · have hb0 : 0 ≤ b := by omega
                have HNB : Hid (numT b = Lib.itoa b) := by unfold Hid numT; rw [if_neg hb]
                have HF : Hid (S ++ ⟨#[45]⟩ ++ ⟨(Lib.itoa b).toArray⟩ = ⟨(accT (l.take (0 + 1))).toArray⟩) := by
                  unfold Hid
                  rw [HT.out, HS0.out]
                  simp only [ba_append, HNA.out, HNB.out]
                  simp [HKE.out]
                clear HT HNA HNB HKE
                go_wp2_with (first
                  | (go_at_call 18; with_reducible refine (rsright_any _ _ _).mono ?_; rintro e w1 ⟨rfl, hb1⟩; rw [hr]; obtain ⟨hc1, hf1⟩ := bcell hb1; have hz1 : wr.heap.size < w1.heap.size := (by have := hb1.size; simp only [World.size_alloc] at this; omega); have B1 := Ext.tr e1 hb1)
                  | (go_at_call 46; with_reducible refine (dg_any b.toNat b _ (Nat.le_refl _) (by omega) (by omega)).mono ?_; rintro e w3 ⟨rfl, hb3⟩; have B3 := Ext.tr B1 hb3))
                go_roundw
                case rel => exact ⟨0 + 1, _, by omega, by go_num, rfl, HF, HRk, Ext.tr hbel B3⟩
                case measure => simp [intOf]; omega
            · have ha0 : 0 ≤ a := by omega
              have HNA : Hid (numT a = Lib.itoa a) := by unfold Hid numT; rw [if_neg ha]
              by_cases hb : b = -1
              · subst hb
                have HNB : Hid (numT (-1) = []) := rfl
                have HF : Hid (S ++ ⟨(Lib.itoa a).toArray⟩ ++ ⟨#[45]⟩ = ⟨(accT (l.take (0 + 1))).toArray⟩) := by
                  unfold Hid
                  rw [HT.out, HS0.out]
                  simp only [ba_append, HNA.out, HNB.out]
                  simp [HKE.out]
                clear HT HNA HNB HKE
                go_wp2_with (first
                  | (go_at_call 18; with_reducible refine (rsright_any _ _ _).mono ?_; rintro e w1 ⟨rfl, hb1⟩; rw [hr]; obtain ⟨hc1, hf1⟩ := bcell hb1; have hz1 : wr.heap.size < w1.heap.size := (by have := hb1.size; simp only [World.size_alloc] at this; omega); have B1 := Ext.tr e1 hb1)
                  | (go_at_call 46; with_reducible refine (dg_any a.toNat a _ (Nat.le_refl _) (by omega) (by omega)).mono ?_; rintro e w2 ⟨rfl, hb2⟩; obtain ⟨hc2, hf2⟩ := bcell hb2; have hz2 : wr.heap.size < w2.heap.size := Nat.lt_of_lt_of_le hz1 hb2.size; have B2 := Ext.tr B1 hb2))
                go_roundw
                case rel => exact ⟨0 + 1, _, by omega, by go_num, rfl, HF, HRk, Ext.tr hbel B2⟩
                case measure => simp [intOf]; omega
              · have hb0 : 0 ≤ b := by omega
                have HNB : Hid (numT b = Lib.itoa b) := by unfold Hid numT; rw [if_neg hb]
                have HF : Hid (S ++ ⟨(Lib.itoa a).toArray⟩ ++ ⟨#[45]⟩ ++ ⟨(Lib.itoa b).toArray⟩ = ⟨(accT (l.take (0 + 1))).toArray⟩) := by
                  unfold Hid
                  rw [HT.out, HS0.out]
                  simp only [ba_append, HNA.out, HNB.out]
                  simp [HKE.out]
                clear HT HNA HNB HKE
                go_wp2_with (first
                  | (go_at_call 18; with_reducible refine (rsright_any _ _ _).mono ?_; rintro e w1 ⟨rfl, hb1⟩; rw [hr]; obtain ⟨hc1, hf1⟩ := bcell hb1; have hz1 : wr.heap.size < w1.heap.size := (by have := hb1.size; simp only [World.size_alloc] at this; omega); have B1 := Ext.tr e1 hb1)
                  | (go_at_call 46; with_reducible refine (dg_any a.toNat a _ (Nat.le_refl _) (by omega) (by omega)).mono ?_; rintro e w2 ⟨rfl, hb2⟩; obtain ⟨hc2, hf2⟩ := bcell hb2; have hz2 : wr.heap.size < w2.heap.size := Nat.lt_of_lt_of_le hz1 hb2.size; have B2 := Ext.tr B1 hb2)
                  | (go_at_call 46; with_reducible refine (dg_any b.toNat b _ (Nat.le_refl _) (by omega) (by omega)).mono ?_; rintro e w3 ⟨rfl, hb3⟩; have B3 := Ext.tr B2 hb3))
                go_roundw
                case rel => exact ⟨0 + 1, _, by omega, by go_num, rfl, HF, HRk, Ext.tr hbel B3⟩
                case measure => simp [intOf]; omega
          · have HKE : Hid (¬ l.take k = []) := fun e => by have h3 : (l.take k).length = 0 := (by rw [e]; rfl); rw [List.length_take] at h3; omega
            have hgt : decide ((k : Int) > 0) = true := by simp; omega
            by_cases ha : a = -1
            · subst ha
              have HNA : Hid (numT (-1) = []) := rfl
              by_cases hb : b = -1
              · subst hb
                have HNB : Hid (numT (-1) = []) := rfl
                exact absurd hsrt (by decide)
              · have hb0 : 0 ≤ b := by omega
                have HNB : Hid (numT b = Lib.itoa b) := by unfold Hid numT; rw [if_neg hb]
                have HF : Hid (S ++ ⟨#[44]⟩ ++ ⟨#[45]⟩ ++ ⟨(Lib.itoa b).toArray⟩ = ⟨(accT (l.take (k + 1))).toArray⟩) := by
                  unfold Hid
                  rw [HT.out, HS0.out]
                  simp only [ba_append, HNA.out, HNB.out]
                  simp [HKE.out]
                clear HT HNA HNB HKE
                go_wp2_with (first
                  | (go_at_call 18; with_reducible refine (rsright_any _ _ _).mono ?_; rintro e w1 ⟨rfl, hb1⟩; rw [hr]; obtain ⟨hc1, hf1⟩ := bcell hb1; have hz1 : wr.heap.size < w1.heap.size := (by have := hb1.size; simp only [World.size_alloc] at this; omega); have B1 := Ext.tr e1 hb1)
                  | (go_at_call 46; with_reducible refine (dg_any b.toNat b _ (Nat.le_refl _) (by omega) (by omega)).mono ?_; rintro e w3 ⟨rfl, hb3⟩; have B3 := Ext.tr B1 hb3))
                go_roundw
                case rel => exact ⟨k + 1, _, by omega, by go_num, rfl, HF, HRk, Ext.tr hbel B3⟩
                case measure => simp [intOf]; omega
            · have ha0 : 0 ≤ a := by omega
              have HNA : Hid (numT a = Lib.itoa a) := by unfold Hid numT; rw [if_neg ha]
              by_cases hb : b = -1
              · subst hb
                have HNB : Hid (numT (-1) = []) := rfl
                have HF : Hid (S ++ ⟨#[44]⟩ ++ ⟨(Lib.itoa a).toArray⟩ ++ ⟨#[45]⟩ = ⟨(accT (l.take (k + 1))).toArray⟩) := by
                  unfold Hid
                  rw [HT.out, HS0.out]
                  simp only [ba_append, HNA.out, HNB.out]
                  simp [HKE.out]
                clear HT HNA HNB HKE
                go_wp2_with (first
                  | (go_at_call 18; with_reducible refine (rsright_any _ _ _).mono ?_; rintro e w1 ⟨rfl, hb1⟩; rw [hr]; obtain ⟨hc1, hf1⟩ := bcell hb1; have hz1 : wr.heap.size < w1.heap.size := (by have := hb1.size; simp only [World.size_alloc] at this; omega); have B1 := Ext.tr e1 hb1)
                  | (go_at_call 46; with_reducible refine (dg_any a.toNat a _ (Nat.le_refl _) (by omega) (by omega)).mono ?_; rintro e w2 ⟨rfl, hb2⟩; obtain ⟨hc2, hf2⟩ := bcell hb2; have hz2 : wr.heap.size < w2.heap.size := Nat.lt_of_lt_of_le hz1 hb2.size; have B2 := Ext.tr B1 hb2))
                go_roundw
                case rel => exact ⟨k + 1, _, by omega, by go_num, rfl, HF, HRk, Ext.tr hbel B2⟩
                case measure => simp [intOf]; omega
              · have hb0 : 0 ≤ b := by omega
                have HNB : Hid (numT b = Lib.itoa b) := by unfold Hid numT; rw [if_neg hb]
                have HF : Hid (S ++ ⟨#[44]⟩ ++ ⟨(Lib.itoa a).toArray⟩ ++ ⟨#[45]⟩ ++ ⟨(Lib.itoa b).toArray⟩ = ⟨(accT (l.take (k + 1))).toArray⟩) := by
                  unfold Hid
                  rw [HT.out, HS0.out]
                  simp only [ba_append, HNA.out, HNB.out]
                  simp [HKE.out]
                clear HT HNA HNB HKE
                go_wp2_with (first
                  | (go_at_call 18; with_reducible refine (rsright_any _ _ _).mono ?_; rintro e w1 ⟨rfl, hb1⟩; rw [hr]; obtain ⟨hc1, hf1⟩ := bcell hb1; have hz1 : wr.heap.size < w1.heap.size := (by have := hb1.size; simp only [World.size_alloc] at this; omega); have B1 := Ext.tr e1 hb1)
                  | (go_at_call 46; with_reducible refine (dg_any a.toNat a _ (Nat.le_refl _) (by omega) (by omega)).mono ?_; rintro e w2 ⟨rfl, hb2⟩; obtain ⟨hc2, hf2⟩ := bcell hb2; have hz2 : wr.heap.size < w2.heap.size := Nat.lt_of_lt_of_le hz1 hb2.size; have B2 := Ext.tr B1 hb2)
                  | (go_at_call 46; with_reducible refine (dg_any b.toNat b _ (Nat.le_refl _) (by omega) (by omega)).mono ?_; rintro e w3 ⟨rfl, hb3⟩; have B3 := Ext.tr B2 hb3))
                go_roundw
                case rel => exact ⟨k + 1, _, by omega, by go_num, rfl, HF, HRk, Ext.tr hbel B3⟩
                case measure => simp [intOf]; omega
      · obtain rfl : k = n := by omega
        have e : l.take k = l := List.take_of_length_le (by have := HL.out; omega)
        rw [e] at HS0 HR0
        by_cases h64 : 64 < k
        · have HD : Hid (textD l = ([], 4)) := by unfold Hid textD; rw [if_neg (by have := HL.out; omega), if_neg (by rw [HR0.out]; decide), if_pos (by have := HL.out; omega)]
          clear e
          go_wp2
          exact bodyPost_ret (v := .tuple #[.string ⟨#[]⟩, .int .i64 4]) (by simp [results, Tryd.results16, go_sem]) rfl ⟨by rw [HD.out], hbel⟩
        · have HD : Hid (textD l = (accT l, 0)) := by unfold Hid textD; rw [if_neg (by have := HL.out; omega), if_neg (by rw [HR0.out]; decide), if_neg (by have := HL.out; omega)]; rfl
          clear e
          go_wp2
          exact bodyPost_ret (v := .tuple #[.string S, .int .i64 0]) (by simp [results, Tryd.results16, go_sem]) rfl ⟨by rw [HD.out, HS0.out], hbel⟩
end Go.Proofs.YtdmkfleiipfbgaaDoor
