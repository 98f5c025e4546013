/-
  Numbers of texts, of both; the month of a name.
-/
import Derived.Test.YtomcoacndppkcaaGreatDoorDY
import Derived.Lib.AtoiErrMem
import Derived.Lib.AtoiErrMem
namespace Go.Proofs.YtomcoacndppkcaaGreatDoor.D
open Go Go.RowKit

set_option maxHeartbeats 1000000 in
theorem number_any (x : ByteArray) (w : World) (hs : x.size ≤ 18) (hw : LaidD w) :
    Calls Tryz.prog 76 #[.string x] w fun e w' => e = .returned (.int .i64 (numP x)) ∧ Below w.heap.size w w' := by
  cases h : Lib.atoi x.data.toList with
  | some n =>
    have hA := Tryz.strconv_Atoi x n hs h w
    have HF : Hid (numP x = n) := Lib.hid (by unfold numP; rw [h]; rfl)
    have hA' : Calls Tryz.prog 103 #[.string x] w fun e w' => e = .returned (.tuple #[.int .i64 n, .nilIface]) ∧ Below w.heap.size w w' := hA.mono fun e w' ⟨a, t, b⟩ => ⟨a, by subst b; exact Lib.bytesWorld_below _ _ _⟩
    clear hA h hw
    go_enter Tryz.func76, Tryz.ntmps76
    go_wp2_with (go_at_call 103; ((with_reducible refine hA'.mono ?_); rintro e w' ⟨rfl, hb⟩))
    go_ret
    exact ⟨ret_int HF.out.symm, hb⟩
  | none =>
    obtain ⟨tp, p, hes⟩ := hw.es
    have hA := Tryz.strconv_Atoi_err x hs h _ w hes (Or.inr ⟨tp, p, rfl⟩)
    have HF : Hid (numP x = 0) := Lib.hid (by unfold numP; rw [h]; rfl)
    clear h hw hes
    go_enter Tryz.func76, Tryz.ntmps76
    go_wp2_with (go_at_call 103; ((with_reducible refine hA.mono ?_); rintro e w' ⟨N, rfl, -, -, hb⟩))
    go_ret
    exact ⟨ret_int HF.out.symm, hb⟩


def mosV : Value := .agg #[.string ⟨#[74, 97, 110]⟩, .string ⟨#[70, 101, 98]⟩, .string ⟨#[77, 97, 114]⟩, .string ⟨#[65, 112, 114]⟩, .string ⟨#[77, 97, 121]⟩, .string ⟨#[74, 117, 110]⟩, .string ⟨#[74, 117, 108]⟩, .string ⟨#[65, 117, 103]⟩, .string ⟨#[83, 101, 112]⟩, .string ⟨#[79, 99, 116]⟩, .string ⟨#[78, 111, 118]⟩, .string ⟨#[68, 101, 99]⟩]
theorem mosV_at (k : Nat) (h : k < 12) (W : World) : (Instr.index 88 mosV (.int .i64 k)).run Tryz.prog W = .ok (.string (moB ((k : Int) + 1))) W := by
  have : k = 0 ∨ k = 1 ∨ k = 2 ∨ k = 3 ∨ k = 4 ∨ k = 5 ∨ k = 6 ∨ k = 7 ∨ k = 8 ∨ k = 9 ∨ k = 10 ∨ k = 11 := by omega
  rcases this with rfl | rfl | rfl | rfl | rfl | rfl | rfl | rfl | rfl | rfl | rfl | rfl <;> (show _ = _; kernel_rfl)
theorem str_eq (a b : ByteArray) : (a.toList == b.toList) = decide (a = b) := by
  rw [Bool.eq_iff_iff]
  simp only [beq_iff_eq, decide_eq_true_eq]
  constructor
  · intro h
    rw [ByteArray.toList_eq, ByteArray.toList_eq] at h
    exact ByteArray.ext (Array.ext' h)
  · intro h; rw [h]

set_option maxRecDepth 20000 in
set_option maxHeartbeats 4000000 in
theorem monthOf_any (x : ByteArray) (w : World) (hw : LaidD w) :
    Calls Tryz.prog 77 #[.string x] w fun e w' => e = .returned (.int .i64 (moX x)) ∧ Below w.heap.size w w' := by
  have c0 : w.cell? ⟨1, 0, none⟩ = some (.string ⟨#[74, 97, 110]⟩) := hw.mo 0 (by omega)
  have c1 : w.cell? ⟨1, 1, none⟩ = some (.string ⟨#[70, 101, 98]⟩) := hw.mo 1 (by omega)
  have c2 : w.cell? ⟨1, 2, none⟩ = some (.string ⟨#[77, 97, 114]⟩) := hw.mo 2 (by omega)
  have c3 : w.cell? ⟨1, 3, none⟩ = some (.string ⟨#[65, 112, 114]⟩) := hw.mo 3 (by omega)
  have c4 : w.cell? ⟨1, 4, none⟩ = some (.string ⟨#[77, 97, 121]⟩) := hw.mo 4 (by omega)
  have c5 : w.cell? ⟨1, 5, none⟩ = some (.string ⟨#[74, 117, 110]⟩) := hw.mo 5 (by omega)
  have c6 : w.cell? ⟨1, 6, none⟩ = some (.string ⟨#[74, 117, 108]⟩) := hw.mo 6 (by omega)
  have c7 : w.cell? ⟨1, 7, none⟩ = some (.string ⟨#[65, 117, 103]⟩) := hw.mo 7 (by omega)
  have c8 : w.cell? ⟨1, 8, none⟩ = some (.string ⟨#[83, 101, 112]⟩) := hw.mo 8 (by omega)
  have c9 : w.cell? ⟨1, 9, none⟩ = some (.string ⟨#[79, 99, 116]⟩) := hw.mo 9 (by omega)
  have c10 : w.cell? ⟨1, 10, none⟩ = some (.string ⟨#[78, 111, 118]⟩) := hw.mo 10 (by omega)
  have c11 : w.cell? ⟨1, 11, none⟩ = some (.string ⟨#[68, 101, 99]⟩) := hw.mo 11 (by omega)
  clear hw
  go_enter Tryz.func77, Tryz.ntmps77
  go_wp2
  have hix : ∀ k : Nat, k < 12 → ∀ W, (Instr.index 88 mosV (.int .i64 k)).run Tryz.prog W = .ok (.string (moB ((k : Int) + 1))) W := fun k h W => mosV_at k h W
  have HX := Lib.hid hix
  clear hix c0 c1 c2 c3 c4 c5 c6 c7 c8 c9 c10 c11
  change Code.wp _ _ _ ⟨#[_, _, _, _, _, mosV, _, _, _, _, _, _, _, _, _, _], _⟩ _
  go_loop [6] (fun i => ∃ k : Nat, k ≤ 12 ∧ i = .int .i64 k ∧ Hid (∀ m : Int, 1 ≤ m → m ≤ k → moB m ≠ x)) (fun i => 12 - (intOf i).toNat)
  case atStart => exact ⟨0, by omega, rfl, Lib.hid fun m a b => by omega⟩
  case round =>
    obtain ⟨k, hk, rfl, HN⟩ := hrel
    by_cases hlt : k < 12
    · have hx := HX.out k hlt
      have HE := Lib.hid (str_eq (moB ((k : Int) + 1)) x)
      by_cases he : moB ((k : Int) + 1) = x
      · have HF : Hid (moX x = (k : Int) + 1) := Lib.hid (moX_of x _ (by omega) (by omega) he)
        have hq : ((moB ((k : Int) + 1)).toList == x.toList) = true := by rw [HE.out]; simpa using he
        clear HE he HN HX
        generalize moB ((k : Int) + 1) = N at *
        go_wp2
        go_ret
        exact ⟨ret_int HF.out.symm, Below.refl _ _⟩
      · have hq : ((moB ((k : Int) + 1)).toList == x.toList) = false := by rw [HE.out]; simpa using he
        have HN2 : Hid (∀ m : Int, 1 ≤ m → m ≤ ((k + 1 : Nat) : Int) → moB m ≠ x) := Lib.hid fun m a b => by
          by_cases hm : m = (k : Int) + 1
          · rw [hm]; exact he
          · exact HN.out m a (by omega)
        clear HE he HN HX
        generalize moB ((k : Int) + 1) = N at *
        go_wp2
        go_round
        case rel => exact ⟨k + 1, by omega, by go_num, HN2⟩
        case measure => simp [intOf]; omega
    · obtain rfl : k = 12 := by omega
      have HF : Hid (moX x = 0) := Lib.hid (moX_none fun m a b => HN.out m a (by omega))
      clear HN HX
      go_wp2
      go_ret
      exact ⟨ret_int HF.out.symm, Below.refl _ _⟩

theorem take_get (x : ByteArray) (k : Nat) (h : k < x.size) : x.data.toList.drop k = x[k] :: x.data.toList.drop (k + 1) := by
  rw [List.drop_eq_getElem_cons (by simpa using h)]; rfl
theorem num_up {acc : Int} {c : UInt8} {r : List UInt8} (h : 48 ≤ c.toNat ∧ c.toNat ≤ 57) : numRF acc (c :: r) = numRF (10 * acc + ((c.toNat : Int) - 48)) r := by
  show (if 48 ≤ c.toNat ∧ c.toNat ≤ 57 then numRF (10 * acc + ((c.toNat : Int) - 48)) r else -1) = _
  rw [if_pos h]
theorem num_bad {acc : Int} {c : UInt8} {r : List UInt8} (h : ¬(48 ≤ c.toNat ∧ c.toNat ≤ 57)) : numRF acc (c :: r) = -1 := by
  show (if 48 ≤ c.toNat ∧ c.toNat ≤ 57 then numRF (10 * acc + ((c.toNat : Int) - 48)) r else -1) = _
  rw [if_neg h]
set_option maxHeartbeats 4000000 in
theorem rnumber_any (x : ByteArray) (w : World) (hs : x.size ≤ 4) :
    Calls Tryz.prog 79 #[.string x] w fun e w' => e = .returned (.int .i64 (numR x)) ∧ w' = w := by
  go_enter Tryz.func79, Tryz.ntmps79
  go_wp2
  go_loop [3, 4] (fun n i => ∃ (k : Nat) (a : Int), k ≤ x.size ∧ i = .int .i64 k ∧ n = .int .i64 a ∧ 0 ≤ a ∧ Hid (a.toNat < 10 ^ k) ∧ Hid (numR x = numRF a (x.data.toList.drop k))) (fun _ i => x.size - (intOf i).toNat)
  case atStart => exact ⟨0, 0, Nat.zero_le _, rfl, rfl, by omega, Lib.hid (by simp), Lib.hid rfl⟩
  case round =>
    obtain ⟨k, a, hk, rfl, rfl, ha, HA, HN⟩ := hrel
    by_cases hlt : k < x.size
    · have ha4 : a < 10000 := by
        have h := HA.out
        have : 10 ^ k ≤ 10 ^ 4 := Nat.pow_le_pow_right (by omega) (by omega)
        omega
      have HT := Lib.hid (take_get x k hlt)
      have hcb : x[k].toNat < 256 := UInt8.toNat_lt x[k]
      by_cases h1 : x[k].toNat < 48
      · have HF : Hid (numR x = -1) := Lib.hid (by rw [HN.out, HT.out, num_bad (by omega)])
        clear HT HN HA
        go_wp2
        go_ret
        exact ⟨ret_int HF.out.symm, rfl⟩
      · by_cases h2 : 57 < x[k].toNat
        · have HF : Hid (numR x = -1) := Lib.hid (by rw [HN.out, HT.out, num_bad (by omega)])
          clear HT HN HA
          go_wp2
          go_ret
          exact ⟨ret_int HF.out.symm, rfl⟩
        · have HF : Hid (numR x = numRF (10 * a + ((x[k].toNat : Int) - 48)) (x.data.toList.drop (k + 1))) := Lib.hid (by rw [HN.out, HT.out, num_up (by omega)])
          have HA2 : Hid ((10 * a + ((x[k].toNat : Int) - 48)).toNat < 10 ^ (k + 1)) := Lib.hid (by have := HA.out; rw [Nat.pow_succ]; omega)
          clear HT HN HA
          go_wp2
          go_round
          case rel => exact ⟨k + 1, _, by omega, by go_num, rfl, by omega, HA2, HF⟩
          case measure => simp [intOf]; omega
    · obtain rfl : k = x.size := by omega
      have HF : Hid (numR x = a) := Lib.hid (by rw [HN.out, List.drop_of_length_le (by simp)]; rfl)
      clear HN HA
      go_wp2
      go_ret
      exact ⟨ret_int HF.out.symm, rfl⟩
end Go.Proofs.YtomcoacndppkcaaGreatDoor.D
