/-
  The conditions of fields, by the reference: joined values, a name's tags, a name's date.
-/
import Derived.Test.YtomcoacndppkcaaGreatDoorWD
namespace Go.Proofs.YtomcoacndppkcaaGreatDoor
open Go Go.RowKit
open T (Tg TgAt IsTg)
open F (FdAt OwnX IsTx TxAt)

theorem joinL_snoc : ∀ (l : List ByteArray) (x : ByteArray), joinL (l ++ [x]) = if l = [] then x.data.toList else joinL l ++ ([44, 32] ++ x.data.toList)
  | [], x => by simp [joinL, Lib.join]
  | [y], x => by simp [joinL, Lib.join]
  | y :: z :: r, x => by
    have ih := joinL_snoc (z :: r) x
    rw [if_neg (by simp)] at ih
    rw [if_neg (by simp)]
    have e1 : joinL (y :: z :: r ++ [x]) = y.data.toList ++ ([44, 32] ++ joinL (z :: r ++ [x])) := by simp [joinL, Lib.join]
    have e2 : joinL (y :: z :: r) = y.data.toList ++ ([44, 32] ++ joinL (z :: r)) := by simp [joinL, Lib.join]
    rw [e1, ih, e2]
    simp
theorem xsum_take_le (v : List ByteArray) (k : Nat) : F.xsum (v.take k) ≤ F.xsum v := by
  have h := F.xsum_append (v.take k) (v.drop k)
  rw [List.take_append_drop] at h
  omega
theorem joinL_take_len (v : List ByteArray) (k : Nat) : (joinL (v.take k)).length ≤ F.xsum v + 2 * v.length := by
  have h1 := joinL_len (v.take k)
  have h2 := xsum_take_le v k
  have h3 : (v.take k).length ≤ v.length := by rw [List.length_take]; omega
  omega
theorem join_zero (S x : ByteArray) (v : List ByteArray) (h0 : 0 < v.length) (hS : S = ⟨(joinL (v.take 0)).toArray⟩) (hx : v[0] = x) : S ++ x = ⟨(joinL (v.take (0 + 1))).toArray⟩ := by
  subst hS; subst hx
  rw [List.take_succ_eq_append_getElem h0, joinL_snoc, if_pos (by simp)]
  apply ByteArray.ext; simp [ByteArray.data_append, joinL, Lib.join]
theorem join_more (S x : ByteArray) (v : List ByteArray) (k : Nat) (hk : k < v.length) (h0 : k ≠ 0) (hS : S = ⟨(joinL (v.take k)).toArray⟩) (hx : v[k] = x) : S ++ ⟨#[44, 32]⟩ ++ x = ⟨(joinL (v.take (k + 1))).toArray⟩ := by
  subst hS; subst hx
  have hne : v.take k ≠ [] := by
    intro q
    have := congrArg List.length q
    rw [List.length_take, List.length_nil] at this
    omega
  rw [List.take_succ_eq_append_getElem hk, joinL_snoc, if_neg hne]
  apply ByteArray.ext; simp [ByteArray.data_append]

set_option maxHeartbeats 4000000 in
set_option maxRecDepth 20000 in
theorem joined_any (A : Option Addr) (n c : Nat) (l : List F.Fd) (name : ByteArray) (w : World) (h : FdIn w A n l) (hname : name.size ≤ F.szM) :
    Calls Tryz.prog 53 #[.slice A n c, .string name] w fun e w' => e = .returned (.tuple #[.string ⟨(joinL (F.ofD l name)).toArray⟩, .bool (decide (F.ofD l name ≠ []))]) ∧ Below w.heap.size w w' := by
  have hO := fun W (e : Below w.heap.size w W) => F.rof_any A n c l name W h.n1 (by have := h.m1; omega) h.mx hname (h.below e).s1
  have hX := Nat.le_trans (xsum_of l name) h.g1
  have hL : (F.ofD l name).length ≤ 1000 := Nat.le_trans (F.ofD_len l name) (by have := h.n1; have := h.m1; omega)
  clear h hname
  generalize F.ofD l name = vs at *
  have HJ := Lib.hid fun k => joinL_take_len vs k
  have HX := Lib.hid hX
  go_enter Tryz.func53, Tryz.ntmps53
  go_wp2_with fail
  with_reducible refine (hO _ (Below.refl _ _)).mono ?_
  rintro e w1 ⟨v1, rfl, ho1, hb1⟩
  clear hO
  have HS := Lib.hid (IsTx.own ho1)
  obtain ⟨A1, n1, c1, rfl, HN1, hc1, hs1⟩ := HS.out.split
  have HT := Lib.hid hs1
  have hn1 : n1 ≤ 1000 := by have := HN1.out; omega
  clear ho1 hs1 HS hX hL
  go_wp2_with fail
  go_loopw [6, 15] (fun v i wr => ∃ (k : Nat) (S : ByteArray), k ≤ n1 ∧ v = .string S ∧ i = .int .i64 k ∧ Hid (S = ⟨(joinL (vs.take k)).toArray⟩) ∧ Below w1.heap.size w1 wr) (fun _ i _ => n1 - (intOf i).toNat)
  case atStart => exact ⟨0, ⟨#[]⟩, Nat.zero_le _, rfl, rfl, rfl, Below.refl _ _⟩
  case round =>
    obtain ⟨k, S, hk, rfl, rfl, HG, hbel⟩ := hrel
    by_cases hlt : k < n1
    · have hkl : k < vs.length := by have := HN1.out; omega
      obtain ⟨b, o, rfl, hb, hc⟩ := (HT.out.below hbel hbel.size) (by omega)
      have c0 := hc k hkl
      clear hc
      have hx : vs[k].size ≤ 50000 := by
        have := F.xsum_at (List.getElem_mem hkl)
        have := HX.out
        omega
      have hSz : S.size ≤ 52000 := by
        have := HJ.out k
        rw [HG.out, T.ba_size]
        have := HX.out; have := HN1.out
        omega
      obtain ⟨x, hX⟩ : ∃ x, Hid (vs[k] = x) := ⟨vs[k], rfl⟩
      rw [hX.out] at c0 hx
      have hbz : b < wr.heap.size := hb
      by_cases h0 : k = 0
      · have HF : Hid (S ++ x = ⟨(joinL (vs.take (k + 1))).toArray⟩) := by
          subst h0; exact join_zero S x vs hkl HG.out hX.out
        clear HG hX
        subst h0
        rw [Nat.add_zero] at c0
        go_wp2
        go_roundw
        case rel => exact ⟨0 + 1, S ++ x, by omega, rfl, by go_num, HF, hbel⟩
        case measure => simp [intOf]; omega
      · have HF : Hid (S ++ ⟨#[44, 32]⟩ ++ x = ⟨(joinL (vs.take (k + 1))).toArray⟩) := join_more S x vs k hkl h0 HG.out hX.out
        have hk0 : (0 : Int) < (k : Int) := by omega
        clear HG hX
        go_wp2
        go_roundw
        case rel => exact ⟨k + 1, S ++ ⟨#[44, 32]⟩ ++ x, by omega, rfl, by go_num, HF, hbel⟩
        case measure => simp [intOf]; omega
    · obtain rfl : k = n1 := by omega
      have HF : Hid (S = ⟨(joinL vs).toArray⟩) := by have h := HG.out; rwa [List.take_of_length_le (by have := HN1.out; omega)] at h
      have HD : Hid (decide (vs ≠ []) = decide ((0 : Int) < (k : Int))) := by
        unfold Hid
        have := HN1.out
        cases vs with
        | nil => simp at this; subst this; simp
        | cons a r => simp at this; simp; omega
      clear HG
      go_wp2
      go_ret2
      exact ⟨by rw [HD.out, ← HF.out]; first | rfl | simp, Ext.tr hb1 hbel⟩
end Go.Proofs.YtomcoacndppkcaaGreatDoor
