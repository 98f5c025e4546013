/-
  Blocks of fields, by the program and by the reference.
-/
import Derived.Lib.AppendIntMem
import Derived.Test.YtmlbinbhicdljaaDoorET
import Derived.Test.YtmlbinbhicdljaaDoorEE
namespace Go.Proofs.YtmlbinbhicdljaaDoor
open Go Go.RowKit

/-- a field's line; all; the block -/
def rowL (f : Fd) : List UInt8 := f.1.data.toList ++ 58 :: 32 :: (f.2.data.toList ++ [13, 10])
def rowsL (l : List Fd) : List UInt8 := l.flatMap rowL
def blockL (l : List Fd) : List UInt8 := rowsL l ++ [13, 10]
def putD (l : List Fd) : ByteArray × Int :=
  if l.all rightD = true then (if 100 < l.length then (⟨#[]⟩, 4) else if 65536 < (blockL l).length then (⟨#[]⟩, 4) else (⟨(blockL l).toArray⟩, 0)) else (⟨#[]⟩, 2)
theorem rowL_len (f : Fd) : (rowL f).length = f.1.size + f.2.size + 4 := by
  unfold rowL; simp only [List.length_append, List.length_cons, List.length_nil, ← Lib.size_eq]; omega
theorem rowsL_len : ∀ l : List Fd, (rowsL l).length = gsum l + 4 * l.length
  | [] => rfl
  | f :: l => by
    have h1 := rowsL_len l
    have h2 := rowL_len f
    have h3 := gsum_append [f] l
    rw [gsum_one] at h3
    simp only [List.singleton_append] at h3
    show (rowL f ++ rowsL l).length = _
    rw [List.length_append, List.length_cons, h3]; omega
theorem blockL_len (l : List Fd) : (blockL l).length = gsum l + 4 * l.length + 2 := by
  unfold blockL; rw [List.length_append, rowsL_len]; rfl
theorem rowsL_take {l : List Fd} {k : Nat} (h : k < l.length) : rowsL (l.take (k + 1)) = rowsL (l.take k) ++ rowL l[k] := by
  unfold rowsL; rw [List.take_succ_eq_append_getElem h, List.flatMap_append]; simp
theorem all_take {l : List Fd} {k : Nat} (h : k < l.length) : (l.take (k + 1)).all rightD = ((l.take k).all rightD && rightD l[k]) := by
  rw [List.take_succ_eq_append_getElem h, List.all_append]; simp
theorem all_bad {l : List Fd} {k : Nat} (h : k < l.length) (e : rightD l[k] = false) : l.all rightD = false := by
  cases q : l.all rightD with
  | false => rfl
  | true => rw [List.all_eq_true.1 q _ (List.getElem_mem h)] at e; cases e
theorem gsum_le {l : List Fd} (k : Nat) : gsum (l.take k) ≤ gsum l := by
  have h := gsum_append (l.take k) (l.drop k)
  rw [List.take_append_drop] at h
  omega
theorem row_cells (x y : ByteArray) : Lib.strCells ((((x ++ ⟨#[58]⟩) ++ ⟨#[32]⟩) ++ y) ++ ⟨#[13, 10]⟩) = Lib.byteCells (rowL (x, y)) := by
  rw [Lib.strCells_eq]; unfold rowL; congr 1
  simp [ByteArray.data_append]
theorem row_text (t : List UInt8) (x y : ByteArray) : ((((⟨t.toArray⟩ : ByteArray) ++ x) ++ ⟨#[58, 32]⟩) ++ y) ++ ⟨#[13, 10]⟩ = ⟨(t ++ rowL (x, y)).toArray⟩ := by
  apply ba_eq
  unfold rowL
  simp [ByteArray.data_append]
theorem end_text (t : List UInt8) : (⟨t.toArray⟩ : ByteArray) ++ ⟨#[13, 10]⟩ = ⟨(t ++ [13, 10]).toArray⟩ := by
  apply ba_eq
  simp [ByteArray.data_append]
theorem Builder_ext {T e : TypeId} {B b : Nat} {p : Value} {bs : List Value} {w W : World} (h : Lib.BuilderAt T e B b p bs w) (hb : Ext w W) : Lib.BuilderAt T e B b p bs W := by
  have hlt := h.lt
  obtain ⟨h1, v, h2, h3, h4⟩ := h
  exact ⟨h1, v, (hb.block b hlt).trans h2, Below.ownF h3 hb, h4⟩

abbrev putV (l : List Fd) : Value := .tuple #[.string (putD l).1, .int .i64 (putD l).2]
set_option maxHeartbeats 8000000 in
set_option maxRecDepth 20000 in
theorem put_any (A : Option Addr) (n c : Nat) (l : List Fd) (w : World) (hn : l.length = n) (hm : n ≤ 130) (hg : gsum l ≤ 12000) (hs : FdAt w w.heap.size A l) :
    Calls Tryd.prog 30 #[.slice A n c] w fun e w' => e = .returned (putV l) ∧ Below w.heap.size w w' := by
  have HS := Lib.hid hs
  have HL := Lib.hid hn
  have HG := Lib.hid hg
  have HM := Lib.hid (Mx.of_small hg)
  clear hs hn hg
  go_enter Tryd.func30, Tryd.ntmps30
  go_wp2
  go_loopw [4, 12] (fun vz i wr => ∃ (k z : Nat), k ≤ n ∧ i = .int .i64 k ∧ vz = .int .i64 z ∧ z ≤ 13000 ∧ Hid (z = 2 + gsum (l.take k) + 4 * k) ∧ Hid ((l.take k).all rightD = true) ∧ Below w.heap.size w wr) (fun _ i _ => n - (intOf i).toNat)
  case atStart => exact ⟨0, 2, Nat.zero_le _, rfl, rfl, by omega, rfl, rfl, Below.refl _ _⟩
  case round =>
    obtain ⟨k, z, hk, rfl, rfl, hz, HZ, HA, hbel⟩ := hrel
    by_cases hlt : k < n
    · have hkl : k < l.length := by have := HL.out; omega
      obtain ⟨b, o, rfl, hb, hc⟩ := (HS.out.below hbel (Nat.le_refl _)) (by omega)
      obtain ⟨c0, c1⟩ := hc k hkl
      clear hc
      obtain ⟨hx, hy⟩ := HM.out.at0 hkl
      have HT := Lib.hid (gsum_take hkl)
      have HT2 := Lib.hid (all_take hkl)
      have HB := Lib.hid (all_bad hkl)
      have HQ := Lib.hid (gsum_le (l := l) (k + 1))
      obtain ⟨X, hX⟩ : ∃ X, Hid (l[k] = X) := ⟨l[k], rfl⟩
      rw [hX.out] at HT HT2 HB c0 c1 hx hy
      clear hX
      obtain ⟨x, y⟩ := X
      simp only at c0 c1 hx hy HT
      have hbz : b < wr.heap.size := by have := hbel.size; omega
      have hA := fun W => right_any x y W hx hy
      have hwz := hbel.size
      cases hq : rightD (x, y) with
      | false =>
        have HF : Hid (putD l = (⟨#[]⟩, 2)) := by unfold Hid putD; rw [HB.out hq, if_neg Bool.false_ne_true]
        rw [hq] at hA
        clear HT HT2 HB HQ hq
        go_wp2_with (go_at_call 28; with_reducible refine (hA _).mono ?_; rintro e w1 ⟨rfl, hb1⟩; obtain ⟨k0, k1, f0, f1, lz, E1⟩ := one_cells hb1; have B1 := hbel.trans (E1.mono hwz))
        exact bodyPost_ret (v := .tuple #[.string ⟨#[]⟩, .int .i64 2]) (by simp [results, Tryd.results30, go_sem]) rfl ⟨by unfold putV; rw [HF.out], B1⟩
      | true =>
        have h12 : x.size + y.size ≤ 12000 := by have := HT.out; have := HQ.out; have := HG.out; omega
        have h13 : z + (x.size + y.size + 4) ≤ 13000 := by have := HT.out; have := HQ.out; have := HG.out; have := HZ.out; omega
        have HK : Hid (z + (x.size + y.size + 4) = 2 + gsum (l.take (k + 1)) + 4 * (k + 1)) := by unfold Hid; have := HT.out; have := HZ.out; omega
        have HK2 : Hid ((l.take (k + 1)).all rightD = true) := by unfold Hid; rw [HT2.out, HA.out, hq]; rfl
        rw [hq] at hA
        clear HT HT2 HB HQ hq HZ HA
        go_wp2_with (go_at_call 28; with_reducible refine (hA _).mono ?_; rintro e w1 ⟨rfl, hb1⟩; obtain ⟨k0, k1, f0, f1, lz, E1⟩ := one_cells hb1; have B1 := hbel.trans (E1.mono hwz))
        go_roundw
        case rel => exact ⟨k + 1, z + (x.size + y.size + 4), by omega, by go_num, by go_num, by omega, HK, HK2, B1⟩
        case measure => simp [intOf]; omega
    · obtain rfl : k = n := by omega
      have HAl : Hid (l.all rightD = true) := by have h := HA.out; rwa [List.take_of_length_le (by have := HL.out; omega)] at h
      by_cases h100 : 100 < k
      · have HF : Hid (putD l = (⟨#[]⟩, 4)) := by unfold Hid putD; rw [if_pos HAl.out, HL.out, if_pos h100]
        clear HZ HA HAl
        go_wp2_with fail
        exact bodyPost_ret (v := .tuple #[.string ⟨#[]⟩, .int .i64 4]) (by simp [results, Tryd.results30, go_sem]) rfl ⟨by unfold putV; rw [HF.out], hbel⟩
      · have HF : Hid (putD l = (⟨(blockL l).toArray⟩, 0)) := by
          unfold Hid putD; rw [if_pos HAl.out, HL.out, if_neg h100, if_neg]
          rw [blockL_len]; have := HG.out; have := HL.out; omega
        clear HZ HA HAl
        have hwz := hbel.size
        have hbk : (wr.alloc (.cells #[.pointer none, .slice none 0 0] 63)).heap[wr.heap.size]? = some (.cells #[.pointer none, .slice none 0 0] 63 (0, 0)) := heap_alloc_new wr _
        have hgr := Tryd.Builder_Grow_fresh wr.heap.size wr.heap.size z (wr.alloc (.cells #[.pointer none, .slice none 0 0] 63)) (Nat.le_refl _) hbk (by simp) (by omega)
        clear hbk
        go_wp2_with (go_at_call 48; with_reducible refine hgr.mono ?_; rintro e w1 ⟨rfl, hbu, hb1⟩)
        have hE1 : Below wr.heap.size wr w1 := ((Below.refl _ _).alloc (Nat.le_refl _) _).trans hb1
        clear hgr hb1
        generalize hB : wr.heap.size = B at *
        go_loopw [41] (fun i wr2 => ∃ k2 : Nat, k2 ≤ k ∧ i = .int .i64 k2 ∧ Lib.BuilderAt 63 5 B B (.pointer (some ⟨B, 0, none⟩)) (Lib.byteCells (rowsL (l.take k2))) wr2 ∧ Below B wr wr2) (fun i _ => k - (intOf i).toNat)
        case atStart => exact ⟨0, Nat.zero_le _, rfl, hbu, hE1⟩
        case round =>
          clear hbu hE1
          obtain ⟨k2, hk2, rfl, hbu, hbel2⟩ := hrel
          have B2 : Below w.heap.size w wr := hbel.trans (hbel2.mono (by omega))
          by_cases hlt2 : k2 < k
          · have hkl : k2 < l.length := by have := HL.out; omega
            obtain ⟨b, o, rfl, hb, hc⟩ := (HS.out.below B2 (Nat.le_refl _)) (by omega)
            obtain ⟨c0, c1⟩ := hc k2 hkl
            clear hc
            have HT := Lib.hid (rowsL_take hkl)
            have HQ := Lib.hid (gsum_at (List.getElem_mem hkl))
            have HR := Lib.hid (gsum_le (l := l) k2)
            obtain ⟨X, hX⟩ : ∃ X, Hid (l[k2] = X) := ⟨l[k2], rfl⟩
            rw [hX.out] at HT HQ c0 c1
            clear hX
            obtain ⟨x, y⟩ := X
            simp only at c0 c1
            have h12 : x.size + y.size ≤ 12000 := by have h := HQ.out; simp only at h; have := HG.out; omega
            have hrl : (Lib.byteCells (rowsL (l.take k2))).length ≤ 13000 := by
              rw [Lib.byteCells_length, rowsL_len, List.length_take]; have := HR.out; have := HG.out; omega
            have hbz : b < wr.heap.size := by have := B2.size; omega
            have hz2 := hbel2.size
            have HC := Lib.hid (row_cells x y)
            obtain ⟨S, hS⟩ : ∃ S, Hid (S = (((x ++ ⟨#[58]⟩) ++ ⟨#[32]⟩) ++ y) ++ ⟨#[13, 10]⟩) := ⟨_, rfl⟩
            have hSz : S.size ≤ 13000 := by rw [hS.out]; simp only [ByteArray.size_append]; show x.size + 1 + 1 + y.size + 2 ≤ _; omega
            have bu2 := Builder_ext hbu ((Below.refl _ _).alloc (Nat.le_refl _) (.cells #[.string x, .string y] 43))
            have hW := Tryd.Builder_WriteString B B _ S _ (.inr bu2) (by omega) (by simp; omega)
            rw [hS.out] at hW
            have HK : Hid (Lib.byteCells (rowsL (l.take k2)) ++ Lib.strCells ((((x ++ ⟨#[58]⟩) ++ ⟨#[32]⟩) ++ y) ++ ⟨#[13, 10]⟩) = Lib.byteCells (rowsL (l.take (k2 + 1)))) := by
              unfold Hid; rw [HT.out, Lib.byteCells_append, HC.out]
            clear HT HC HQ HR hS bu2 hbu
            go_wp2_with (go_at_call 49; refine hW.mono ?_; rintro e w3 ⟨rfl, hbu3, hb3⟩)
            go_roundw
            case rel => exact ⟨k2 + 1, by omega, by go_num, by rw [← HK.out]; exact hbu3, (hbel2.alloc (by omega) _).trans (hb3.mono (by omega))⟩
            case measure => simp [intOf]; omega
          · obtain rfl : k2 = k := by omega
            have HR : Hid (l.take k2 = l) := List.take_of_length_le (by have := HL.out; omega)
            rw [HR.out] at hbu
            have hz2 := hbel2.size
            have hrl : (Lib.byteCells (rowsL l)).length ≤ 13000 := by
              rw [Lib.byteCells_length, rowsL_len]; have := HG.out; have := HL.out; omega
            have hW := Tryd.Builder_WriteString B B _ ⟨#[13, 10]⟩ _ (.inr hbu) (by show _ + 2 ≤ _; omega) (by omega)
            have hSt : ∀ w3, Lib.BuilderAt 63 5 B B (.pointer (some ⟨B, 0, none⟩)) (Lib.byteCells (rowsL l) ++ Lib.strCells ⟨#[13, 10]⟩) w3 → B ≤ w3.heap.size → Calls Tryd.prog 50 #[.pointer (some ⟨B, 0, none⟩)] w3 fun e w' => e = .returned (.string ⟨(blockL l).toArray⟩) ∧ Below B w3 w' := fun w3 h hz => by
              have e : Lib.byteCells (rowsL l) ++ Lib.strCells ⟨#[13, 10]⟩ = Lib.byteCells (blockL l) := by
                unfold blockL; rw [Lib.byteCells_append]; rfl
              rw [e] at h
              exact Tryd.Builder_String_any B B (blockL l) w3 (.inr h) hz
            clear hbu HR
            generalize blockL l = L at *
            go_wp2_with (first
              | (go_at_call 49; with_reducible refine hW.mono ?_; rintro e w3 ⟨rfl, hbu3, hb3⟩; have z3 := hb3.size; have hS3 := hSt w3 hbu3 (by omega); clear hbu3)
              | (go_at_call 50; with_reducible refine hS3.mono ?_; rintro e w4 ⟨rfl, hb4⟩))
            exact bodyPost_ret (v := .tuple #[.string ⟨L.toArray⟩, .int .i64 0]) (by simp [results, Tryd.results30, go_sem]) rfl ⟨by unfold putV; rw [HF.out], B2.trans ((hb3.trans hb4).mono (by omega))⟩
end Go.Proofs.YtmlbinbhicdljaaDoor
