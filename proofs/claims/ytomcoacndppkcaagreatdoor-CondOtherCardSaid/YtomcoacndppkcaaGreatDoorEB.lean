/-
  Small letters, and names alike, by the program and by the reference.
-/
import Derived.Lib.QuietBelow
import Derived.Laws.IdiomStrings
import Derived.Lib.SmallJoins
import Derived.Test.YtomcoacndppkcaaGreatDoorEM
namespace Go.Proofs.YtomcoacndppkcaaGreatDoor.F
open Go Go.RowKit
open Go.Sort (grow)

theorem below_drewN {B : Nat} {a w : World} (h : Below B a w) (n : Nat) : Below B a (w.drewN n) := h.trans ⟨rfl, rfl, rfl, Nat.le_refl _, fun _ _ => rfl⟩
set_option maxHeartbeats 800000 in
theorem lower_any (n : Nat) (w : World) (hn : n < 256) :
    Calls Tryz.prog 91 #[.int .u8 (n : Int)] w fun e w' => e = .returned (.int .u8 (lowN n : Int)) ∧ w' = w := by
  by_cases h1 : 65 ≤ n
  · by_cases h2 : n ≤ 90
    · have HF : Hid (lowN n = n + 32) := by unfold Hid lowN; rw [if_pos ⟨h1, h2⟩]
      have d : IntKind.u8.wrap ((n : Int) + 32) = (n : Int) + 32 := by rw [IntKind.wrap]; simp [IntKind.bits]; omega
      go_enter Tryz.func91, Tryz.ntmps91
      go_wp2
      go_ret
      exact ⟨ret_int (by rw [HF.out]; push_cast; rfl), rfl⟩
    · have HF : Hid (lowN n = n) := by unfold Hid lowN; rw [if_neg (by omega)]
      go_enter Tryz.func91, Tryz.ntmps91
      go_wp2
      go_ret
      exact ⟨ret_int (by rw [HF.out]), rfl⟩
  · have HF : Hid (lowN n = n) := by unfold Hid lowN; rw [if_neg (by omega)]
    go_enter Tryz.func91, Tryz.ntmps91
    go_wp2
    go_ret
    exact ⟨ret_int (by rw [HF.out]), rfl⟩

set_option maxHeartbeats 2000000 in
theorem alike_any (s t : ByteArray) (w : World) (hs : s.size ≤ szM) (_ht : t.size ≤ szM) :
    Calls Tryz.prog 68 #[.string s, .string t] w fun e w' => e = .returned (.bool (alikeD s t)) ∧ Below w.heap.size w w' := by
  unfold szM at hs
  by_cases hz : s.size = t.size
  · have b0 : ((s.size : Int) != (t.size : Int)) = false := by rw [bne_eq_false_iff_eq]; omega
    go_enter Tryz.func68, Tryz.ntmps68
    go_wp2
    go_loopw [13] (fun i wr => ∃ k : Nat, k ≤ s.size ∧ i = .int .i64 k ∧ Hid (AlTo s t k) ∧ Below w.heap.size w wr) (fun i _ => s.size - (intOf i).toNat)
    case atStart => exact ⟨0, Nat.zero_le _, rfl, by unfold Hid AlTo; simp, Below.refl _ _⟩
    case round =>
      obtain ⟨k, hk, rfl, HG, hbel⟩ := hrel
      by_cases hlt : k < s.size
      · have hlt2 : k < t.size := by omega
        have HM := Lib.hid (HG.out.more hlt hlt2)
        have HB := Lib.hid (alike_bad hlt hlt2)
        have l1 := fun W => lower_any s[k].toNat W (u8_lt _)
        have l2 := fun W => lower_any t[k].toNat W (u8_lt _)
        clear HG
        by_cases hq : lowN s[k].toNat = lowN t[k].toNat
        · have HK : Hid (AlTo s t (k + 1)) := HM.out hq
          have b1 : ((lowN s[k].toNat : Int) != (lowN t[k].toNat : Int)) = false := by rw [bne_eq_false_iff_eq]; omega
          clear HM HB hq
          generalize lowN s[k].toNat = p at *
          generalize lowN t[k].toNat = q at *
          go_wp2
          go_quiet ((go_at_call 91; first | (with_reducible exact Calls.quiet_of_same (l1 _)) | (with_reducible exact Calls.quiet_of_same (l2 _))))
          go_wp2
          go_roundw
          case rel => exact ⟨k + 1, by omega, by go_num, HK, below_drewN hbel _⟩
          case measure => simp [intOf]; omega
        · have HF : Hid (alikeD s t = false) := HB.out hq
          have b1 : ((lowN s[k].toNat : Int) != (lowN t[k].toNat : Int)) = true := by rw [bne_iff_ne]; omega
          clear HM HB hq
          generalize lowN s[k].toNat = p at *
          generalize lowN t[k].toNat = q at *
          go_wp2
          go_quiet ((go_at_call 91; first | (with_reducible exact Calls.quiet_of_same (l1 _)) | (with_reducible exact Calls.quiet_of_same (l2 _))))
          go_wp2
          go_ret
          exact ⟨ret_bool HF.out.symm, below_drewN hbel _⟩
      · obtain rfl : k = s.size := by omega
        have HF : Hid (alikeD s t = true) := HG.out.all hz
        clear HG
        go_wp2
        go_ret
        exact ⟨ret_bool HF.out.symm, hbel⟩
  · have b0 : ((s.size : Int) != (t.size : Int)) = true := by rw [bne_iff_ne]; omega
    have HF : Hid (alikeD s t = false) := alike_sizes hz
    go_enter Tryz.func68, Tryz.ntmps68
    go_wp2
    go_ret
    exact ⟨ret_bool HF.out.symm, Below.refl _ _⟩

/-- a row of bytes of which the first k letters are small -/
def LowAt (W : World) (g : Nat) (s : ByteArray) (k : Nat) : Prop :=
  ∃ cur fr, W.heap[g]? = some (.cells cur 5 (fr, fr + 1)) ∧ s.size ≤ fr ∧ s.size ≤ cur.size ∧ ∀ j (h : j < s.size), cur[j]? = some (.int .u8 ((if j < k then lowN s[j].toNat else s[j].toNat : Nat) : Int))
theorem LowAt.lt {W : World} {g k : Nat} {s : ByteArray} (h : LowAt W g s k) : g < W.heap.size := by
  obtain ⟨cur, fr, h, _⟩ := h; exact (Array.getElem?_eq_some_iff.1 h).1
theorem LowAt.cell {W : World} {g k j : Nat} {s : ByteArray} (h : LowAt W g s k) (hj : j < s.size) : W.cell? ⟨g, j, none⟩ = some (.int .u8 ((if j < k then lowN s[j].toNat else s[j].toNat : Nat) : Int)) := by
  obtain ⟨cur, fr, h, _, _, hc⟩ := h
  simp [World.cell?, h, hc j hj]
theorem LowAt.free {W : World} {g k j : Nat} {s : ByteArray} (h : LowAt W g s k) (hj : j < s.size) : W.frozen? ⟨g, j, none⟩ = false := by
  obtain ⟨cur, fr, h, h1, _, _⟩ := h
  simp [World.frozen?, h]; omega
theorem LowAt.set {W : World} {g k : Nat} {s : ByteArray} (h : LowAt W g s k) (hk : k < s.size) : LowAt (W.setCell ⟨g, k, none⟩ (.int .u8 (lowN s[k].toNat : Int))) g s (k + 1) := by
  obtain ⟨cur, fr, h, h1, h2, hc⟩ := h
  obtain ⟨hlt, hk2⟩ := Array.getElem?_eq_some_iff.1 h
  refine ⟨cur.set k (.int .u8 (lowN s[k].toNat : Int)) (by omega), fr, ?_, h1, by simpa using h2, fun j hj => ?_⟩
  · show (W.heap.modify g _)[g]? = _
    rw [Array.getElem?_eq_getElem (by rw [Array.size_modify]; exact hlt), Array.getElem_modify_self, hk2]
    simp [Array.setIfInBounds, show k < cur.size by omega]
  · rw [Array.getElem?_set]
    by_cases e : k = j
    · subst e; simp
    · rw [if_neg e, hc j hj]
      by_cases h3 : j < k
      · rw [if_pos h3, if_pos (by omega)]
      · rw [if_neg h3, if_neg (by omega)]
theorem LowAt.skip {W : World} {g k : Nat} {s : ByteArray} (h : LowAt W g s k) (hk : k < s.size) (e : lowN s[k].toNat = s[k].toNat) : LowAt W g s (k + 1) := by
  obtain ⟨cur, fr, h, h1, h2, hc⟩ := h
  refine ⟨cur, fr, h, h1, h2, fun j hj => ?_⟩
  rw [hc j hj]
  by_cases h3 : j < k
  · rw [if_pos h3, if_pos (by omega)]
  · by_cases h4 : j = k
    · subst h4; rw [if_neg (by omega), if_pos (by omega), e]
    · rw [if_neg h3, if_neg (by omega)]
theorem LowAt.made (w : World) (s : ByteArray) (c : Nat) : LowAt (w.drew.alloc (.cells (bytesRow s c) 5 ((bytesRow s c).size, (bytesRow s c).size + 1))) w.heap.size s 0 := by
  refine ⟨bytesRow s c, (bytesRow s c).size, ?_, ?_, ?_, fun j hj => ?_⟩
  · show (w.heap.push _)[w.heap.size]? = _
    simp
  · unfold bytesRow; simp
  · unfold bytesRow; simp
  · rw [bytesRow_at s c j hj]; simp; rfl

theorem lowL_at {s : ByteArray} {j : Nat} (hj : j < (lowL s.data.toList).length) (h : j < s.size) : ((lowL s.data.toList)[j]).toNat = lowN s[j].toNat := by
  simp only [lowL, List.getElem_map, lowB_nat]
  rfl
set_option maxHeartbeats 2000000 in
theorem low_any (s : ByteArray) (w : World) (hs : s.size ≤ szM) :
    Calls Tryz.prog 81 #[.string s] w fun e w' => e = .returned (.string (lowS s)) ∧ Below w.heap.size w w' := by
  unfold szM at hs
  have hcv := run_bytes_of_string (P := Tryz.prog) w 9 102 5 s Tryz.underlying9 Tryz.underlying102 Tryz.underlying5
  have hmk := LowAt.made w s (grownCap w s.size 0 5)
  have hbl : Below w.heap.size w (w.drew.alloc (.cells (bytesRow s (grownCap w s.size 0 5)) 5 ((bytesRow s (grownCap w s.size 0 5)).size, (bytesRow s (grownCap w s.size 0 5)).size + 1))) := Ext.tr (⟨rfl, rfl, rfl, Nat.le_refl _, fun _ _ => rfl⟩ : Ext w w.drew) ((Below.refl _ _).alloc (Nat.le_refl _) _)
  generalize (w.drew.alloc (.cells (bytesRow s (grownCap w s.size 0 5)) 5 ((bytesRow s (grownCap w s.size 0 5)).size, (bytesRow s (grownCap w s.size 0 5)).size + 1))) = W1 at *
  generalize grownCap w s.size 0 5 = cp at *
  go_enter Tryz.func81, Tryz.ntmps81
  go_wp2
  go_loopw [9] (fun i wr => ∃ k : Nat, k ≤ s.size ∧ i = .int .i64 k ∧ LowAt wr w.heap.size s k ∧ Below w.heap.size w wr) (fun i _ => s.size - (intOf i).toNat)
  case atStart => exact ⟨0, Nat.zero_le _, rfl, hmk, hbl⟩
  case round =>
    clear hmk hbl hcv
    obtain ⟨k, hk, rfl, HL, hbel⟩ := hrel
    by_cases hlt : k < s.size
    · have c0 := HL.cell hlt
      rw [if_neg (by omega)] at c0
      have f0 := HL.free hlt
      have z0 := HL.lt
      have hx := u8_lt s[k]
      have HS := Lib.hid (HL.set hlt)
      have HK := Lib.hid (HL.skip hlt)
      have HD : Hid (lowN s[k].toNat = if 65 ≤ s[k].toNat ∧ s[k].toNat ≤ 90 then s[k].toNat + 32 else s[k].toNat) := rfl
      clear HL
      generalize s[k].toNat = n at *
      by_cases h1 : 65 ≤ n
      · by_cases h2 : n ≤ 90
        · have e : lowN n = n + 32 := by rw [HD.out, if_pos ⟨h1, h2⟩]
          rw [e] at HS
          have d : IntKind.u8.wrap ((n : Int) + 32) = (n : Int) + 32 := by rw [IntKind.wrap]; simp [IntKind.bits]; omega
          clear HD HK e
          go_wp2
          go_roundw
          case rel => exact ⟨k + 1, by omega, by go_num, by have := HS.out; push_cast at this; exact this, Below.setCell (p := ⟨w.heap.size, k, Option.none⟩) hbel (Nat.le_refl _) _⟩
          case measure => simp [intOf]; omega
        · have HF := Lib.hid (HK.out (by rw [HD.out, if_neg (by omega)]))
          clear HD HK HS
          go_wp2
          go_roundw
          case rel => exact ⟨k + 1, by omega, by go_num, HF.out, hbel⟩
          case measure => simp [intOf]; omega
      · have HF := Lib.hid (HK.out (by rw [HD.out, if_neg (by omega)]))
        clear HD HK HS
        go_wp2
        go_roundw
        case rel => exact ⟨k + 1, by omega, by go_num, HF.out, hbel⟩
        case measure => simp [intOf]; omega
    · obtain rfl : k = s.size := by omega
      have hcb := Go.run_convert_bytes_back (P := Tryz.prog) wr 102 9 5 ⟨w.heap.size, 0, none⟩ cp (lowL s.data.toList) Tryz.underlying102 Tryz.underlying5 Tryz.underlying9 (fun j hj => by
        have hj' : j < s.size := by rw [lowL_len, ← Lib.size_eq] at hj; exact hj
        rw [Addr.add_lit, Nat.zero_add, HL.cell hj', if_pos hj']
        rw [lowL_at hj hj'])
      rw [lowL_len, ← Lib.size_eq] at hcb
      go_wp2
      go_ret
      exact ⟨rfl, hbel⟩

set_option maxHeartbeats 1000000 in
theorem ralike_any (s t : ByteArray) (w : World) (hs : s.size ≤ szM) (ht : t.size ≤ szM) :
    Calls Tryz.prog 56 #[.string s, .string t] w fun e w' => e = .returned (.bool (alikeD s t)) ∧ Below w.heap.size w w' := by
  have h1 := fun W => low_any s W hs
  have h2 := fun W => low_any t W ht
  have HF := Lib.hid (alike_eq s t)
  generalize lowS s = a at *
  generalize lowS t = b at *
  go_enter Tryz.func56, Tryz.ntmps56
  go_wp2_with (go_at_call 81; first
    | (with_reducible refine (h1 _).mono ?_; rintro e w1 ⟨rfl, hb1⟩)
    | (with_reducible refine (h2 _).mono ?_; rintro e w2 ⟨rfl, hb2⟩))
  go_ret
  exact ⟨ret_bool HF.out, Ext.tr hb1 hb2⟩
end Go.Proofs.YtomcoacndppkcaaGreatDoor.F
