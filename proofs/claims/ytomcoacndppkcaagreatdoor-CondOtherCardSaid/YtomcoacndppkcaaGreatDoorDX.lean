/-
  A number in two or four digits, of both; the reference's names of days and months.
-/
import Derived.Test.YtomcoacndppkcaaGreatDoorDP
import Derived.Test.YtomcoacndppkcaaGreatDoorShelf
import Derived.Lib.ItoaMem
import Derived.Laws.IdiomStrings
namespace Go.Proofs.YtomcoacndppkcaaGreatDoor.D
open Go Go.RowKit
open Go.Sort (grow)

theorem dg_of {i : Nat} : UInt8.ofNat (48 + i) = dg (i : Int) := by unfold dg; simp
theorem digits_one {i : Nat} (h : i < 10) : (⟨(Lib.decDigits i).toArray⟩ : ByteArray) = ⟨#[dg (i : Int)]⟩ := by
  rw [Lib.decDigits_one h, dg_of]
theorem digits_two {i : Nat} (h1 : ¬ i < 10) (h2 : i < 100) : (⟨(Lib.decDigits i).toArray⟩ : ByteArray) = d2B (i : Int) := by
  rw [Lib.decDigits_two h1 h2, dg_of, dg_of]
  unfold d2B
  rw [show ((i / 10 : Nat) : Int) = (i : Int) / 10 % 10 by omega, show ((i % 10 : Nat) : Int) = (i : Int) % 10 by omega]
theorem digits_four {i : Nat} (h1 : 1000 ≤ i) (h2 : i ≤ 9999) : (⟨(Lib.itoa (i : Int)).toArray⟩ : ByteArray) = d2B ((i : Int) / 100) ++ d2B ((i : Int) % 100) := by
  have e : Lib.decDigits i = Lib.decDigits (i / 100) ++ [UInt8.ofNat (48 + i / 10 % 10)] ++ [UInt8.ofNat (48 + i % 10)] := by
    rw [Lib.decDigits, dif_neg (by omega), Lib.decDigits, dif_neg (by omega), show i / 10 / 10 = i / 100 by omega]
  rw [Lib.itoa_nonneg, e, Lib.decDigits_two (by omega) (by omega), dg_of, dg_of, dg_of, dg_of]
  unfold d2B
  apply ByteArray.ext
  rw [show ((i / 100 / 10 : Nat) : Int) = (i : Int) / 100 / 10 % 10 by omega, show ((i / 100 % 10 : Nat) : Int) = (i : Int) / 100 % 10 by omega, show ((i / 10 % 10 : Nat) : Int) = (i : Int) % 100 / 10 % 10 by omega, show ((i % 10 : Nat) : Int) = (i : Int) % 100 % 10 by omega]
  simp [ByteArray.data_append]
theorem d2_size (n : Int) : (d2B n).size = 2 := rfl
theorem one_more {i : Int} (h0 : 0 ≤ i) (h : i < 10) : (⟨#[48]⟩ : ByteArray) ++ ⟨#[dg i]⟩ = d2B i := by
  unfold d2B
  rw [show i / 10 % 10 = 0 by omega, show i % 10 = i by omega]
  apply ByteArray.ext
  simp [ByteArray.data_append]; rfl
theorem none_more (x : ByteArray) : (⟨#[]⟩ : ByteArray) ++ x = x := by
  apply ByteArray.ext
  simp [ByteArray.data_append]

set_option maxHeartbeats 1000000 in
theorem digits2_any (i : Nat) (w : World) (h : i < 100) :
    Calls Tryz.prog 60 #[.int .i64 i, .int .i64 2] w fun e w' => e = .returned (.string (d2B i)) ∧ w' = w := by
  have hI := fun W => Tryz.strconv_Itoa_small i h W
  by_cases h1 : i < 10
  · rw [digits_one h1] at hI
    have HF := Lib.hid (one_more (i := i) (by omega) (by omega))
    generalize hs : (⟨#[dg (i : Int)]⟩ : ByteArray) = S at *
    have sz : S.size = 1 := by rw [← hs]; rfl
    have hm : max (1 : Int) 0 = 1 := by decide
    clear hs
    go_enter Tryz.func60, Tryz.ntmps60
    go_wp2_with (first | (go_at_call 87; ((with_reducible refine (hI _).mono ?_); rintro e w' ⟨rfl, rfl⟩)) | (go_at_call 88; ((with_reducible refine (Tryz.strings_Repeat_one _ _).mono ?_); rintro e w' ⟨rfl, rfl⟩)))
    go_ret
    exact ⟨ret_str HF.out, rfl⟩
  · rw [digits_two h1 h] at hI
    have HF := Lib.hid (none_more (d2B i))
    have sz := d2_size i
    generalize d2B i = S at *
    go_enter Tryz.func60, Tryz.ntmps60
    go_wp2_with (first | (go_at_call 87; ((with_reducible refine (hI _).mono ?_); rintro e w' ⟨rfl, rfl⟩)) | (go_at_call 88; ((with_reducible refine (Tryz.strings_Repeat_zero _ _).mono ?_); rintro e w' ⟨rfl, rfl⟩)))
    go_ret
    exact ⟨ret_str HF.out, rfl⟩
set_option maxHeartbeats 1000000 in
theorem digits4_any (i : Nat) (w : World) (h1 : 1000 ≤ i) (h2 : i ≤ 9999) (hw : LaidD w) :
    Calls Tryz.prog 60 #[.int .i64 i, .int .i64 4] w fun e w' => e = .returned (.string (d2B ((i : Int) / 100) ++ d2B ((i : Int) % 100))) ∧ Below w.heap.size w w' := by
  have hI : Calls Tryz.prog 87 #[.int .i64 i] w fun e w' => e = .returned (.string (d2B ((i : Int) / 100) ++ d2B ((i : Int) % 100))) ∧ Below w.heap.size w w' := by
    have := Tryz.strconv_Itoa (i : Int) (by omega) (by omega) w hw.tab
    rw [digits_four h1 h2] at this
    exact this.mono fun e w' ⟨he, k, os, hw⟩ => ⟨he, by subst hw; exact below_grown_sl _ w k os (Nat.le_refl _)⟩
  clear hw
  have HF := Lib.hid (none_more (d2B ((i : Int) / 100) ++ d2B ((i : Int) % 100)))
  have sz : (d2B ((i : Int) / 100) ++ d2B ((i : Int) % 100)).size = 4 := by rw [ByteArray.size_append]; rfl
  generalize d2B ((i : Int) / 100) ++ d2B ((i : Int) % 100) = S at *
  go_enter Tryz.func60, Tryz.ntmps60
  go_wp2_with (first | (go_at_call 87; ((with_reducible refine hI.mono ?_); rintro e w' ⟨rfl, hb⟩)) | (go_at_call 88; ((with_reducible refine (Tryz.strings_Repeat_zero _ _).mono ?_); rintro e w' ⟨rfl, rfl⟩)))
  go_ret
  exact ⟨ret_str HF.out, hb⟩

set_option maxRecDepth 20000 in
set_option maxHeartbeats 1000000 in
theorem two_any (n : Int) (w : World) (h0 : 0 ≤ n) (h9 : n ≤ 99) :
    Calls Tryz.prog 64 #[.int .i64 n] w fun e w' => e = .returned (.string (d2B n)) ∧ Below w.heap.size w w' := by
  have d1 := dg_nat (k := n / 10 % 10) (by omega) (by omega)
  have d2 := dg_nat (k := n % 10) (by omega) (by omega)
  have hcv := Go.run_convert_bytes_back (P := Tryz.prog) (w.alloc (.cells #[.int .u8 (48 + n / 10 % 10), .int .u8 (48 + n % 10)] 5)) 102 9 5 ⟨w.heap.size, 0, none⟩ 2 [dg (n / 10 % 10), dg (n % 10)] Tryz.underlying102 Tryz.underlying5 Tryz.underlying9 (fun j hj => by
    have : j = 0 ∨ j = 1 := by simp at hj; omega
    rcases this with rfl | rfl
    · simp [Addr.add, d1]; omega
    · simp [Addr.add, d2]; omega)
  simp only [List.length_cons, List.length_nil, Nat.zero_add, Nat.reduceAdd] at hcv
  have HF : Hid (Ending.returned (.string (⟨[dg (n / 10 % 10), dg (n % 10)].toArray⟩ : ByteArray)) = .returned (.string (d2B n))) := Lib.hid rfl
  clear d1 d2
  go_enter Tryz.func64, Tryz.ntmps64
  go_wp2
  go_ret
  exact ⟨HF.out, by go_grown⟩
end Go.Proofs.YtomcoacndppkcaaGreatDoor.D
