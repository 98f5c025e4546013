/-
  Copies, trimming, which names and values may be, which fields are right, by the program.
-/
import Derived.Shelf.Strings.SlTrimAscii
import Derived.Test.YtmlbinbhicdljaaDoorShelf
import Derived.Lib.QuietBelow
import Derived.Test.YtmlbinbhicdljaaDoorEB
namespace Go.Proofs.YtmlbinbhicdljaaDoor
open Go Go.RowKit
open Go.Sort (grow)

/-- strings.Clone -/
theorem clone_any (s : ByteArray) (w : World) (hm : s.size ≤ 281474976710656) :
    Calls Tryd.prog 36 #[.string s] w fun e w' => e = .returned (.string s) ∧ Below w.heap.size w w' := by
  go_enter Tryd.func36, Tryd.ntmps36
  go_wp2_with (go_at_call 57; with_reducible refine (Tryd.stringslite_Clone s _ hm).mono ?_; rintro e w1 ⟨rfl, hb1⟩)
  go_ret
  exact ⟨rfl, hb1⟩
theorem trimx_any (s : ByteArray) (w : World) (hs : s.size ≤ szM) :
    Calls Tryd.prog 42 #[.string s, .string ⟨#[32, 9]⟩] w fun e w' => e = .returned (.string ⟨(Lib.trimS s.data.toList [32, 9]).toArray⟩) ∧ Below w.heap.size w w' :=
  Any.strings_Trim_laid Tryd.lays160 (by kernel_rfl) s ⟨#[32, 9]⟩ w (by unfold szM at hs; omega) (by decide) (ascii_of_all (by decide))

/-- a field in a block of its own, and what came behind -/
theorem one_cells {w W : World} {s t : ByteArray} (h : Below (w.alloc (.cells #[.string s, .string t] 43)).heap.size (w.alloc (.cells #[.string s, .string t] 43)) W) :
    W.cell? ⟨w.heap.size, 0, none⟩ = some (.string s) ∧ W.cell? ⟨w.heap.size, 1, none⟩ = some (.string t) ∧ W.frozen? ⟨w.heap.size, 0, none⟩ = false ∧ W.frozen? ⟨w.heap.size, 1, none⟩ = false ∧ w.heap.size < W.heap.size ∧ Ext w W := by
  have hz := h.size
  simp only [World.size_alloc] at hz
  refine ⟨?_, ?_, ?_, ?_, by omega, Ext.tr ((Below.refl _ _).alloc (Nat.le_refl _) _) h⟩
  · rw [h.cell (p := ⟨w.heap.size, 0, none⟩) (by simp)]; simp
  · rw [h.cell (p := ⟨w.heap.size, 1, none⟩) (by simp)]; simp
  · rw [h.frozen (p := ⟨w.heap.size, 0, none⟩) (by simp)]; simp
  · rw [h.frozen (p := ⟨w.heap.size, 1, none⟩) (by simp)]; simp

set_option maxHeartbeats 2000000 in
theorem newField_any (s t : ByteArray) (w : World) (hs : s.size ≤ szM) (ht : t.size ≤ szM) :
    Calls Tryd.prog 38 #[.string s, .string t] w fun e w' => e = .returned (.agg #[.string s, .string t]) ∧ Below w.heap.size w w' := by
  unfold szM at hs ht
  have h1 := fun W => clone_any s W (by omega)
  have h2 := fun W => clone_any t W (by omega)
  go_enter Tryd.func38, Tryd.ntmps38
  go_wp2_with (go_at_call 36; first
    | (with_reducible refine (h1 _).mono ?_; rintro e w1 ⟨rfl, hb1⟩)
    | (with_reducible refine (h2 _).mono ?_; rintro e w2 ⟨rfl, hb2⟩; obtain ⟨k0, k1, f0, f1, lz, B2⟩ := one_cells (hb1.trans (hb2.mono hb1.size))))
  exact bodyPost_ret (v := .agg #[.string s, .string t]) (by simp [results, Tryd.results38, go_sem, k0, k1]) rfl ⟨rfl, by go_grown⟩

theorem tok_prog : ∀ n < 256, tokN n = (decide (97 ≤ lowN n ∧ lowN n ≤ 122) || decide (48 ≤ n ∧ n ≤ 57) || decide (0 ≤ Lib.indexByte markL (n.toUInt8))) := by decide +kernel

set_option maxHeartbeats 2000000 in
theorem inToken_any (n : Nat) (w : World) (hn : n < 256) :
    Calls Tryd.prog 67 #[.int .u8 (n : Int)] w fun e w' => e = .returned (.bool (tokN n)) ∧ w' = w := by
  have HT := Lib.hid (tok_prog n hn)
  have l1 := fun W => lower_any n W hn
  have ix := fun W => Tryd.strings_IndexByte ⟨markL.toArray⟩ (n : Int) W
  have e0 : (⟨markL.toArray⟩ : ByteArray).data.toList = markL := rfl
  rw [e0, Int.toNat_natCast] at ix
  have e1 : (⟨markL.toArray⟩ : ByteArray) = ⟨#[33, 35, 36, 37, 38, 39, 42, 43, 45, 46, 94, 95, 96, 124, 126]⟩ := rfl
  rw [e1] at ix
  clear e0 e1
  generalize Lib.indexByte markL n.toUInt8 = q at *
  generalize lowN n = p at *
  by_cases h1 : 97 ≤ p
  · by_cases h2 : p ≤ 122
    · have HF : Hid (tokN n = true) := by unfold Hid; rw [HT.out]; simp [h1, h2]
      clear HT
      go_enter Tryd.func67, Tryd.ntmps67
      go_wp2_with (first
        | (go_at_call 56; with_reducible refine (l1 _).mono ?_; rintro e w1 ⟨rfl, rfl⟩)
        | (go_at_call 76; with_reducible refine (ix _).mono ?_; rintro e w1 ⟨rfl, rfl⟩))
      go_ret
      exact ⟨ret_bool HF.out.symm, rfl⟩
    · by_cases h3 : 48 ≤ n
      · by_cases h4 : n ≤ 57
        · have HF : Hid (tokN n = true) := by unfold Hid; rw [HT.out]; simp [h3, h4]
          clear HT
          go_enter Tryd.func67, Tryd.ntmps67
          go_wp2_with (first
            | (go_at_call 56; with_reducible refine (l1 _).mono ?_; rintro e w1 ⟨rfl, rfl⟩)
            | (go_at_call 76; with_reducible refine (ix _).mono ?_; rintro e w1 ⟨rfl, rfl⟩))
          go_ret
          exact ⟨ret_bool HF.out.symm, rfl⟩
        · have HF : Hid (tokN n = decide (0 ≤ q)) := by unfold Hid; rw [HT.out]; simp [h2, h4]
          clear HT
          go_enter Tryd.func67, Tryd.ntmps67
          go_wp2_with (first
            | (go_at_call 56; with_reducible refine (l1 _).mono ?_; rintro e w1 ⟨rfl, rfl⟩)
            | (go_at_call 76; with_reducible refine (ix _).mono ?_; rintro e w1 ⟨rfl, rfl⟩))
          go_ret
          exact ⟨ret_bool (by rw [HF.out, Bool.eq_iff_iff]; simp <;> omega), rfl⟩
      · have HF : Hid (tokN n = decide (0 ≤ q)) := by unfold Hid; rw [HT.out]; simp [h2, h3]
        clear HT
        go_enter Tryd.func67, Tryd.ntmps67
        go_wp2_with (first
          | (go_at_call 56; with_reducible refine (l1 _).mono ?_; rintro e w1 ⟨rfl, rfl⟩)
          | (go_at_call 76; with_reducible refine (ix _).mono ?_; rintro e w1 ⟨rfl, rfl⟩))
        go_ret
        exact ⟨ret_bool (by rw [HF.out, Bool.eq_iff_iff]; simp <;> omega), rfl⟩
  · by_cases h3 : 48 ≤ n
    · by_cases h4 : n ≤ 57
      · have HF : Hid (tokN n = true) := by unfold Hid; rw [HT.out]; simp [h3, h4]
        clear HT
        go_enter Tryd.func67, Tryd.ntmps67
        go_wp2_with (first
          | (go_at_call 56; with_reducible refine (l1 _).mono ?_; rintro e w1 ⟨rfl, rfl⟩)
          | (go_at_call 76; with_reducible refine (ix _).mono ?_; rintro e w1 ⟨rfl, rfl⟩))
        go_ret
        exact ⟨ret_bool HF.out.symm, rfl⟩
      · have HF : Hid (tokN n = decide (0 ≤ q)) := by unfold Hid; rw [HT.out]; simp [h1, h4]
        clear HT
        go_enter Tryd.func67, Tryd.ntmps67
        go_wp2_with (first
          | (go_at_call 56; with_reducible refine (l1 _).mono ?_; rintro e w1 ⟨rfl, rfl⟩)
          | (go_at_call 76; with_reducible refine (ix _).mono ?_; rintro e w1 ⟨rfl, rfl⟩))
        go_ret
        exact ⟨ret_bool (by rw [HF.out, Bool.eq_iff_iff]; simp <;> omega), rfl⟩
    · have HF : Hid (tokN n = decide (0 ≤ q)) := by unfold Hid; rw [HT.out]; simp [h1, h3]
      clear HT
      go_enter Tryd.func67, Tryd.ntmps67
      go_wp2_with (first
        | (go_at_call 56; with_reducible refine (l1 _).mono ?_; rintro e w1 ⟨rfl, rfl⟩)
        | (go_at_call 76; with_reducible refine (ix _).mono ?_; rintro e w1 ⟨rfl, rfl⟩))
      go_ret
      exact ⟨ret_bool (by rw [HF.out]), rfl⟩

theorem nameS_small {s : ByteArray} (h : s.size < 1) : nameS s = false := by unfold nameS tokS; simp; omega
theorem nameS_great {s : ByteArray} (h : 200 < s.size) : nameS s = false := by unfold nameS; simp; omega
theorem nameS_all {s : ByteArray} (h1 : ¬ s.size < 1) (h2 : ¬ 200 < s.size) : nameS s = s.data.toList.all fun x => tokN x.toNat := by
  unfold nameS tokS
  rw [decide_eq_true (by omega), decide_eq_true (by omega)]; rfl

set_option maxHeartbeats 2000000 in
theorem isName_any (s : ByteArray) (w : World) (hm : s.size ≤ szM) :
    Calls Tryd.prog 44 #[.string s] w fun e w' => e = .returned (.bool (nameS s)) ∧ w' = w := by
  unfold szM at hm
  by_cases h1 : s.size < 1
  · have HF := Lib.hid (nameS_small h1)
    go_enter Tryd.func44, Tryd.ntmps44
    go_wp2
    go_ret
    exact ⟨ret_bool HF.out.symm, rfl⟩
  · by_cases h2 : 200 < s.size
    · have HF := Lib.hid (nameS_great h2)
      go_enter Tryd.func44, Tryd.ntmps44
      go_wp2
      go_ret
      exact ⟨ret_bool HF.out.symm, rfl⟩
    · have HA := Lib.hid (nameS_all h1 h2)
      go_enter Tryd.func44, Tryd.ntmps44
      go_wp2
      go_loop [14] (fun i => ∃ k : Nat, k ≤ s.size ∧ i = .int .i64 k ∧ Hid (AllTo tokN s k)) (fun i => s.size - (intOf i).toNat)
      case atStart => exact ⟨0, Nat.zero_le _, rfl, AllTo.zero _ _⟩
      case round =>
        obtain ⟨k, hk, rfl, HG⟩ := hrel
        by_cases hlt : k < s.size
        · have hmy := fun W => inToken_any s[k].toNat W (u8_lt _)
          have HM := Lib.hid (HG.out.more hlt)
          have HB := Lib.hid (AllTo.bad (p := tokN) hlt)
          cases hq : tokN s[k].toNat with
          | false =>
            have HF : Hid (nameS s = false) := by unfold Hid; rw [HA.out]; exact HB.out hq
            clear HM HB HG
            go_wp2_with (go_at_call 67; with_reducible refine (hmy _).mono ?_; rintro e w2 ⟨rfl, rfl⟩; rw [hq])
            go_ret
            exact ⟨ret_bool HF.out.symm, rfl⟩
          | true =>
            have HK : Hid (AllTo tokN s (k + 1)) := HM.out hq
            clear HM HB HG
            go_wp2_with (go_at_call 67; with_reducible refine (hmy _).mono ?_; rintro e w2 ⟨rfl, rfl⟩; rw [hq])
            go_round
            case rel => exact ⟨k + 1, by omega, by go_num, HK⟩
            case measure => simp [intOf]; omega
        · obtain rfl : k = s.size := by omega
          have HF : Hid (nameS s = true) := by unfold Hid; rw [HA.out]; exact HG.out.all
          go_wp2
          go_ret
          exact ⟨ret_bool HF.out.symm, rfl⟩

theorem valueS_great {s : ByteArray} (h : 8192 < s.size) : valueS s = false := by
  unfold valueS; rw [decide_eq_false (by omega)]; rfl
theorem valueS_trim {s : ByteArray} (h : (⟨(trimB s.data.toList).toArray⟩ : ByteArray) ≠ s) : valueS s = false := by
  unfold valueS; rw [decide_eq_false (p := trimB s.data.toList = s.data.toList) (by intro e; exact h (by rw [e, ba_eta]))]; simp
theorem valueS_all {s : ByteArray} (h1 : ¬ 8192 < s.size) (h : (⟨(trimB s.data.toList).toArray⟩ : ByteArray) = s) : valueS s = s.data.toList.all fun x => valN x.toNat := by
  unfold valueS plainS
  rw [decide_eq_true (by omega), decide_eq_true (p := trimB s.data.toList = s.data.toList) (by have := congrArg (fun b => b.data.toList) h; simpa using this)]; rfl

set_option maxHeartbeats 4000000 in
theorem isValue_any (s : ByteArray) (w : World) (hm : s.size ≤ szM) :
    Calls Tryd.prog 45 #[.string s] w fun e w' => e = .returned (.bool (valueS s)) ∧ Below w.heap.size w w' := by
  have htr := fun W => trimx_any s W hm
  unfold szM at hm
  by_cases h1 : 8192 < s.size
  · have HF := Lib.hid (valueS_great h1)
    go_enter Tryd.func45, Tryd.ntmps45
    go_wp2_with fail
    go_ret
    exact ⟨ret_bool HF.out.symm, Below.refl _ _⟩
  · by_cases h2 : (⟨(trimB s.data.toList).toArray⟩ : ByteArray) = s
    · have HA := Lib.hid (valueS_all h1 h2)
      have hq := eqB_t h2
      generalize (⟨(Lib.trimS s.data.toList [32, 9]).toArray⟩ : ByteArray) = tb at *
      clear h2
      go_enter Tryd.func45, Tryd.ntmps45
      go_wp2_with (go_at_call 42; with_reducible refine (htr _).mono ?_; rintro e w1 ⟨rfl, hb1⟩)
      clear htr hq
      go_loopw [15] (fun i wr => ∃ k : Nat, k ≤ s.size ∧ i = .int .i64 k ∧ Hid (AllTo valN s k) ∧ Below w.heap.size w wr) (fun i _ => s.size - (intOf i).toNat)
      case atStart => exact ⟨0, Nat.zero_le _, rfl, AllTo.zero _ _, hb1⟩
      case round =>
        clear hb1
        obtain ⟨k, hk, rfl, HG, hbel⟩ := hrel
        by_cases hlt : k < s.size
        · have HM := Lib.hid (HG.out.more hlt)
          have HB := Lib.hid (AllTo.bad (p := valN) hlt)
          have HV : ∀ n, n = s[k].toNat → Hid (valN s[k].toNat = (decide (32 ≤ n ∧ n ≤ 126) || decide (n = 9))) := fun n e => by subst e; rfl
          have HV2 := Lib.hid (HV _ rfl)
          clear HG HV
          generalize hx : s[k].toNat = n at *
          by_cases g1 : n < 32
          · by_cases g2 : n = 9
            · have b2 : ((n : Int) != 9) = false := by rw [bne_eq_false_iff_eq]; omega
              have HK : Hid (AllTo valN s (k + 1)) := HM.out (by rw [HV2.out.out]; simp [g2])
              clear HM HB HV2
              go_wp2
              go_roundw
              case rel => exact ⟨k + 1, by omega, by go_num, HK, hbel⟩
              case measure => simp [intOf]; omega
            · have b2 : ((n : Int) != 9) = true := by rw [bne_iff_ne]; omega
              have HF : Hid (valueS s = false) := by unfold Hid; rw [HA.out]; exact HB.out (by rw [HV2.out.out]; simp; omega)
              clear HM HB HV2
              go_wp2
              go_ret
              exact ⟨ret_bool HF.out.symm, hbel⟩
          · by_cases g3 : 126 < n
            · have b2 : ((n : Int) != 9) = true := by rw [bne_iff_ne]; omega
              have HF : Hid (valueS s = false) := by unfold Hid; rw [HA.out]; exact HB.out (by rw [HV2.out.out]; simp; omega)
              clear HM HB HV2
              go_wp2
              go_ret
              exact ⟨ret_bool HF.out.symm, hbel⟩
            · have HK : Hid (AllTo valN s (k + 1)) := HM.out (by rw [HV2.out.out]; simp; omega)
              clear HM HB HV2
              go_wp2
              go_roundw
              case rel => exact ⟨k + 1, by omega, by go_num, HK, hbel⟩
              case measure => simp [intOf]; omega
        · obtain rfl : k = s.size := by omega
          have HF : Hid (valueS s = true) := by unfold Hid; rw [HA.out]; exact HG.out.all
          go_wp2
          go_ret
          exact ⟨ret_bool HF.out.symm, hbel⟩
    · have HF := Lib.hid (valueS_trim h2)
      have hq := eqB_f h2
      generalize (⟨(Lib.trimS s.data.toList [32, 9]).toArray⟩ : ByteArray) = tb at *
      clear h2
      go_enter Tryd.func45, Tryd.ntmps45
      go_wp2_with (go_at_call 42; with_reducible refine (htr _).mono ?_; rintro e w1 ⟨rfl, hb1⟩)
      go_ret
      exact ⟨ret_bool HF.out.symm, hb1⟩

set_option maxHeartbeats 2000000 in
theorem right_any (s t : ByteArray) (w : World) (hs : s.size ≤ szM) (ht : t.size ≤ szM) :
    Calls Tryd.prog 28 #[.agg #[.string s, .string t]] w fun e w' => e = .returned (.bool (rightD (s, t))) ∧ Below w.heap.size w w' := by
  have h1 := fun W => isName_any s W hs
  have h2 := fun W => isValue_any t W ht
  have HR : Hid (rightD (s, t) = (nameS s && valueS t)) := rfl
  have hb0 : Ext w (w.alloc (.cells #[.string s, .string t] 43)) := (Below.refl _ _).alloc (Nat.le_refl _) _
  cases hq : nameS s with
  | false =>
    have HF : Hid (rightD (s, t) = false) := by unfold Hid; rw [HR.out, hq]; rfl
    rw [hq] at h1
    clear HR hq
    go_enter Tryd.func28, Tryd.ntmps28
    go_wp2_with (go_at_call 44; with_reducible refine (h1 _).mono ?_; rintro e w1 ⟨rfl, rfl⟩)
    go_ret
    exact ⟨ret_bool HF.out.symm, hb0⟩
  | true =>
    have HF : Hid (rightD (s, t) = valueS t) := by unfold Hid; rw [HR.out, hq]; rfl
    rw [hq] at h1
    clear HR hq
    go_enter Tryd.func28, Tryd.ntmps28
    go_wp2_with (first
      | (go_at_call 44; with_reducible refine (h1 _).mono ?_; rintro e w1 ⟨rfl, rfl⟩)
      | (go_at_call 45; with_reducible refine (h2 _).mono ?_; rintro e w2 ⟨rfl, hb2⟩))
    go_ret
    exact ⟨ret_bool HF.out.symm, Ext.tr hb0 hb2⟩
end Go.Proofs.YtmlbinbhicdljaaDoor
