/-
  spec.Text by a contract.
-/
import Derived.Deep.RegionHeld3
import Derived.Test.YtdmkfleiipfbgaaDoorPU
import Derived.Test.YtdmkfleiipfbgaaDoorPI
namespace Go.Proofs.YtdmkfleiipfbgaaDoor
open Go Go.RowKit
open Go.Sort (grow)

theorem infoStr : (Tryd.prog.info? 9).map (fun i => (i.zero, i.size, i.bytes)) = some (some (.string ⟨#[]⟩), 1, 16) := by kernel_rfl
def itemB (x : Sp) : ByteArray := ⟨(itemT x).toArray⟩
/-- the texts that are laid so far -/
def rowT (l : List Sp) (n k : Nat) : List ByteArray := (l.take k).map itemB ++ List.replicate (n - k) ⟨#[]⟩
theorem rowT_len {l : List Sp} {n k : Nat} (hn : l.length = n) (hk : k ≤ n) : (rowT l n k).length = n := by unfold rowT; simp; omega
theorem rowT_set {l : List Sp} {n k : Nat} (hn : l.length = n) (hk : k < l.length) : (rowT l n k).set k (itemB l[k]) = rowT l n (k + 1) := by
  unfold rowT
  have e1 : ((l.take k).map itemB).length = k := by simp; omega
  rw [List.set_append_right _ _ (by omega), e1, Nat.sub_self, List.take_succ_eq_append_getElem hk, List.map_append]
  obtain ⟨m, hm⟩ : ∃ m, n - k = m + 1 := ⟨n - k - 1, by omega⟩
  rw [hm, show n - (k + 1) = m by omega, List.replicate_succ, List.set_cons_zero]
  simp
theorem rowT_end {l : List Sp} {n : Nat} (hn : l.length = n) : rowT l n n = l.map itemB := by
  unfold rowT; rw [List.take_of_length_le (by omega), Nat.sub_self]; simp
theorem rowT_at {l : List Sp} {n k : Nat} (hn : l.length = n) (hk : k < n) : (rowT l n k)[k]? = some ⟨#[]⟩ := by
  unfold rowT
  have e1 : ((l.take k).map itemB).length = k := by simp; omega
  rw [List.getElem?_append_right (by omega), e1, Nat.sub_self, List.getElem?_replicate, if_pos (by omega)]

set_option maxHeartbeats 8000000 in
set_option maxRecDepth 100000 in
theorem text_any4 (A : Option Addr) (n c : Nat) (l : List Sp) (w : World) (hT : TB w) (hn : l.length = n) (hm : n ≤ 100) (hs : SpAt w w.heap.size A l) :
    Calls Tryd.prog 15 #[.slice A n c] w fun e w' => e = .returned (.tuple #[.string ⟨(textD l).1.toArray⟩, .int .i64 (textD l).2]) ∧ Below w.heap.size w w' := by
  have HS := Lib.hid hs
  clear hs
  have HL := Lib.hid hn
  clear hn
  by_cases h0 : n = 0
  · subst h0
    have HD : Hid (textD l = ([], 1)) := by unfold Hid textD; rw [if_pos HL.out]
    go_enter Tryd.func15, Tryd.ntmps15
    go_wp2
    exact bodyPost_ret (v := .tuple #[.string ⟨#[]⟩, .int .i64 1]) (by simp [results, Tryd.results15, go_sem]) rfl ⟨by rw [HD.out], Below.refl _ _⟩
  · have hn0 : ((n : Int) == 0) = false := by rw [beq_eq_false_iff_ne]; omega
    go_enter Tryd.func15, Tryd.ntmps15
    go_wp2
    go_loopw [14] (fun i wr => ∃ k : Nat, k ≤ n ∧ i = .int .i64 k ∧ Hid (allR (l.take k) = true) ∧ Below w.heap.size w wr) (fun i _ => n - (intOf i).toNat)
    case atStart => exact ⟨0, Nat.zero_le _, rfl, rfl, Below.refl _ _⟩
    case round =>
      obtain ⟨k, hk, rfl, HR0, hbel⟩ := hrel
      by_cases hlt : k < n
      · have hkl : k < l.length := by have := HL.out; omega
        obtain ⟨b0, o, rfl, hbb, hc⟩ := (HS.out.below hbel (Nat.le_refl _)) (by omega)
        obtain ⟨c0, c1⟩ := hc k hkl
        clear hc
        have HRT := Lib.hid (allR_take hkl)
        have HRA := Lib.hid (fun h => allR_at hkl h)
        generalize l[k] = X at *
        obtain ⟨a, b⟩ := X
        simp only at c0 c1 HRT HRA
        have hwz := hbel.size
        have hbz : b0 < wr.heap.size := by omega
        have e1 : Ext wr (wr.alloc (.cells #[.int .i64 a, .int .i64 b] 32)) := (Below.refl _ _).alloc (Nat.le_refl _) _
        cases hr : srB a b with
        | false =>
          have HD : Hid (textD l = ([], 1)) := by unfold Hid textD; rw [if_neg (by have := HL.out; omega), if_pos (HRA.out hr)]
          clear HRT HRA
          go_wp2_with (go_at_call 17; with_reducible refine (sright_any a b _).mono ?_; rintro e w1 ⟨rfl, hb1⟩; rw [hr]; have B1 := Ext.tr hbel (Ext.tr e1 hb1); clear hb1)
          exact bodyPost_ret (v := .tuple #[.string ⟨#[]⟩, .int .i64 1]) (by simp [results, Tryd.results15, go_sem]) rfl ⟨by rw [HD.out], B1⟩
        | true =>
          have HRk : Hid (allR (l.take (k + 1)) = true) := by unfold Hid; rw [HRT.out, HR0.out, hr]; rfl
          clear HRT HRA
          go_wp2_with (go_at_call 17; with_reducible refine (sright_any a b _).mono ?_; rintro e w1 ⟨rfl, hb1⟩; rw [hr]; have B1 := Ext.tr hbel (Ext.tr e1 hb1); clear hb1)
          go_roundw
          case rel => exact ⟨k + 1, by omega, by go_num, HRk, B1⟩
          case measure => simp [intOf]; omega
      · obtain rfl : k = n := by omega
        have HR : Hid (allR l = true) := by have := HR0.out; rwa [List.take_of_length_le (by have := HL.out; omega)] at this
        clear HR0
        by_cases h64 : 64 < k
        · have HD : Hid (textD l = ([], 4)) := by unfold Hid textD; rw [if_neg (by have := HL.out; omega), if_neg (by rw [HR.out]; decide), if_pos (by have := HL.out; omega)]
          go_wp2
          exact bodyPost_ret (v := .tuple #[.string ⟨#[]⟩, .int .i64 4]) (by simp [results, Tryd.results15, go_sem]) rfl ⟨by rw [HD.out], hbel⟩
        · have HD : Hid (textD l = (textT l, 0)) := by unfold Hid textD; rw [if_neg (by have := HL.out; omega), if_neg (by rw [HR.out]; decide), if_neg (by have := HL.out; omega)]
          obtain ⟨ib, hib, hz0, hz1, hz2⟩ := info_parts infoStr
          obtain ⟨w4, hrun, hst, hgr⟩ := run_make_full (P := Tryd.prog) wr wr.heap.size 61 9 ib (.string ⟨#[]⟩) 1 Tryd.underlying61 hib hz0 hz1 .i64 .i64 k (by rw [hz2]; omega) (by unfold maxLen; omega) (Nat.le_refl _)
          go_wp2_with fail
          have B4 : Below wr.heap.size wr w4 := ⟨hgr.os, hgr.tape, hgr.output, hgr.size, fun k hk => hgr.block k hk (by simp)⟩
          rw [show Value.cells (.string ⟨#[]⟩) = #[.string ⟨#[]⟩] from rfl, toList_madeCells_one, Nat.mul_one] at hst
          have hst2 : w4.ownsRow wr.heap.size 9 1 (.slice (some ⟨wr.heap.size, 0, none⟩) k k) k ((rowT l k 0).map Value.string) := by simpa [rowT] using hst
          have hz4 := own_lt hst
          have Bw4 : Below w.heap.size w w4 := hbel.trans (B4.mono hbel.size)
          have hwz := hbel.size
          have hTz : 6 < wr.heap.size := Nat.lt_of_lt_of_le hT.2 hbel.size
          have HT4 : Hid (TB w4) := hT.below Bw4
          clear hrun hst hgr B4
          generalize wr.heap.size = z at *
          go_loopw [30] (fun i wq => ∃ m : Nat, m ≤ k ∧ i = .int .i64 m ∧ wq.ownsRow z 9 1 (.slice (some ⟨z, 0, none⟩) k k) k ((rowT l k m).map Value.string) ∧ Below z w4 wq ∧ z < wq.heap.size) (fun i _ => k - (intOf i).toNat)
          case atStart => exact ⟨0, Nat.zero_le _, rfl, hst2, Below.refl _ _, hz4⟩
          case round =>
            clear hst2 hbel
            obtain ⟨m, hmk, rfl, hst, hbq, hzq⟩ := hrel
            have Bq : Below w.heap.size w wr := Bw4.trans (hbq.mono hwz)
            by_cases hml : m < k
            · have hkl : m < l.length := by have := HL.out; omega
              obtain ⟨b0, o, rfl, hbb, hc⟩ := (HS.out.below Bq (Nat.le_refl _)) (by omega)
              obtain ⟨c0, c1⟩ := hc m hkl
              clear hc
              have hsr := SR.of (List.all_eq_true.1 HR.out l[m] (List.getElem_mem hkl))
              have HRS := Lib.hid (rowT_set HL.out hkl)
              have HRA : Hid ((rowT l k m)[m]? = some ⟨#[]⟩) := rowT_at HL.out hml
              generalize l[m] = X at *
              obtain ⟨a, b⟩ := X
              unfold SR at hsr
              simp only at c0 c1 hsr
              have hbz : b0 < wr.heap.size := by have := Bq.size; omega
              have la := numT_len hsr.1 (by omega)
              have lb := numT_len hsr.2.2.1 (by omega)
              have q1 : (m : Int) < (k : Int) := by omega
              have q2 : (0 : Int) ≤ (m : Int) := by omega
              have hxz : z ≠ wr.heap.size := by omega
              have k0 : (wr.alloc (.cells #[.int .i64 a, .int .i64 b] 32)).cell? ⟨wr.heap.size, 0, none⟩ = some (.int .i64 a) := by simp
              have k1 : (wr.alloc (.cells #[.int .i64 a, .int .i64 b] 32)).cell? ⟨wr.heap.size, 1, none⟩ = some (.int .i64 b) := by simp
              have k2 : wr.heap.size < (wr.alloc (.cells #[.int .i64 a, .int .i64 b] 32)).heap.size := by simp
              have e5 : Ext wr (wr.alloc (.cells #[.int .i64 a, .int .i64 b] 32)) := (Below.refl _ _).alloc (Nat.le_refl _) _
              go_wp2_with fail
              generalize wr.alloc (.cells #[.int .i64 a, .int .i64 b] 32) = w5 at *
              have HT5 : Hid (TB w5) := HT4.out.at_ hTz (hbq.trans (e5.mono (Nat.le_of_lt hzq)))
              have hzl : z ≤ wr.heap.size := Nat.le_of_lt hzq
              have e5z : Below z wr w5 := e5.mono hzl
              generalize wr.heap.size = xb at *
              have SK1 : ∀ W, Ext w5 W → (Below z w5 W ∧ W.cell? ⟨xb, 0, none⟩ = some (.int .i64 a) ∧ W.cell? ⟨xb, 1, none⟩ = some (.int .i64 b)) := fun W e => ⟨e.mono (by omega), by rw [e.cell (p := ⟨xb, 0, none⟩) k2]; exact k0, by rw [e.cell (p := ⟨xb, 1, none⟩) k2]; exact k1⟩
              have SK2 : ∀ W v, Ext w5 W → (Below z w5 (W.setCell ⟨z, m, none⟩ v) ∧ (W.setCell ⟨z, m, none⟩ v).cell? ⟨xb, 0, none⟩ = some (.int .i64 a) ∧ (W.setCell ⟨z, m, none⟩ v).cell? ⟨xb, 1, none⟩ = some (.int .i64 b)) := fun W v e => ⟨(SK1 W e).1.setCell (Nat.le_refl _) v, set_other hxz (SK1 W e).2.1, set_other hxz (SK1 W e).2.2⟩
              have own5 := own_ext hst e5
              have hNa := fun W (h : TB W) => numtext_any a W h hsr.1 (by omega)
              have hNb := fun W (h : TB W) => numtext_any b W h hsr.2.2.1 (by omega)
              have SC : ∀ W, Ext w5 W → W.cell? ⟨z, m, none⟩ = some (.string ⟨#[]⟩) ∧ W.frozen? ⟨z, m, none⟩ = false := fun W e => by
                have o := own_ext own5 e
                refine ⟨?_, World.ownsRow.frozenAt o m⟩
                rw [World.ownsRow.cellAt o _ (by omega), List.getElem?_map, HRA.out]; rfl
              have sz1 : (⟨(numT a).toArray⟩ : ByteArray).size ≤ 18 := by rw [ba_size]; exact la
              have sz2 : (⟨(numT b).toArray⟩ : ByteArray).size ≤ 18 := by rw [ba_size]; exact lb
              have HQ : Hid ((⟨(numT a).toArray⟩ : ByteArray) ++ ⟨#[45]⟩ ++ ⟨(numT b).toArray⟩ = itemB (a, b)) := by
                unfold Hid itemB itemT
                rw [show (⟨#[45]⟩ : ByteArray) = ⟨[45].toArray⟩ from rfl, ba_append, ba_append]; simp
              clear la lb c0 c1 hst
              generalize (⟨(numT a).toArray⟩ : ByteArray) = ta at *
              generalize (⟨(numT b).toArray⟩ : ByteArray) = tb at *
              have n1 : ¬ 9223372036854775807 < ta.size + 1 := by omega
              have n2 : ¬ 9223372036854775807 < ta.size + 1 + tb.size := by omega
              go_region_held3 (fun W => Below z w5 W ∧ W.cell? ⟨xb, 0, none⟩ = some (.int .i64 a) ∧ W.cell? ⟨xb, 1, none⟩ = some (.int .i64 b))
                (first | exact SK2 _ _ X7 | exact SK2 _ _ X6 | exact SK1 _ X7 | exact SK1 _ X6 | exact SK1 _ (by go_grown))
                (first
                  | (go_at_call 44; first
                      | (have _t := X6; with_reducible refine (hNb _ (HT5.out.below X6)).mono ?_; rintro e w7 ⟨rfl, hb7⟩; have X7 : Ext w5 w7 := Ext.tr X6 hb7; obtain ⟨y7, f7⟩ := SC _ X7; clear hb7)
                      | (have _t := X6; with_reducible refine (hNa _ (HT5.out.below X6)).mono ?_; rintro e w7 ⟨rfl, hb7⟩; have X7 : Ext w5 w7 := Ext.tr X6 hb7; obtain ⟨y7, f7⟩ := SC _ X7; clear hb7)
                      | (with_reducible refine (hNa _ (HT5.out.below (by go_grown))).mono ?_; rintro e w6 ⟨rfl, hb6⟩; have X6 : Ext w5 w6 := Ext.tr (by go_grown) hb6; clear hb6)
                      | (with_reducible refine (hNb _ (HT5.out.below (by go_grown))).mono ?_; rintro e w6 ⟨rfl, hb6⟩; have X6 : Ext w5 w6 := Ext.tr (by go_grown) hb6; clear hb6)))
              all_goals
                have o7 := (World.ownsRow.stored (own_ext own5 X7) m (.string (ta ++ ⟨#[45]⟩ ++ tb))).1
                rw [HQ.out, ← List.map_set, HRS.out] at o7
                have B7 : Below z w4 (w7.setCell ⟨z, m, none⟩ (.string (itemB (a, b)))) := (hbq.trans (e5z.trans (X7.mono (by omega)))).setCell (Nat.le_refl _) _
                have Z7 : z < (w7.setCell ⟨z, m, none⟩ (.string (itemB (a, b)))).heap.size := by have := X7.size; have := e5.size; simp; omega
                rw [← HQ.out] at o7 B7 Z7
                clear SK1 SK2 SC own5 hNa hNb HRS HRA
                go_wp2
                go_roundw
                case rel => exact ⟨m + 1, by omega, by go_num, o7, B7, Z7⟩
                case measure => simp [intOf]; omega
            · obtain rfl : m = k := by omega
              rw [rowT_end HL.out] at hst
              have hlen : (itemsT l).length ≤ 2432 := by
                have := items_len l (SRL.of HR.out); have := HL.out; omega
              have hjo : Lib.join ((l.map itemB).map (·.data.toList)) [44] = itemsT l := by
                rw [List.map_map, ← join_items l]; rfl
              have hJ := Tryd.strings_Join z 0 m (l.map itemB) ⟨#[44]⟩ wr (fun j x hj => by
                rw [Nat.zero_add, World.ownsRow.cellAt hst j (by have := (List.getElem?_eq_some_iff.1 hj).1; simp at this; have := HL.out; omega), List.getElem?_map, hj]; rfl) hzq (by simp; have := HL.out; omega) (by simp; have := HL.out; omega) (by
                show (Lib.join ((l.map itemB).map (·.data.toList)) [44]).length ≤ _
                rw [hjo]; omega)
              rw [List.length_map, HL.out] at hJ
              change Calls Tryd.prog 45 #[.slice (some ⟨z, 0, none⟩) m m, .string ⟨#[44]⟩] wr fun e w' => e = .returned (.string ⟨(Lib.join ((l.map itemB).map (·.data.toList)) [44]).toArray⟩) ∧ Below wr.heap.size wr w' at hJ
              rw [hjo] at hJ
              have hsz : (⟨(itemsT l).toArray⟩ : ByteArray).size ≤ 2432 := by rw [ba_size]; exact hlen
              have HQ : Hid ((⟨#[98, 121, 116, 101, 115, 61]⟩ : ByteArray) ++ ⟨(itemsT l).toArray⟩ = ⟨(textT l).toArray⟩) := by
                unfold Hid textT
                rw [show (⟨#[98, 121, 116, 101, 115, 61]⟩ : ByteArray) = ⟨[98, 121, 116, 101, 115, 61].toArray⟩ from rfl, ba_append]
              generalize (⟨(itemsT l).toArray⟩ : ByteArray) = ti at *
              clear hst
              go_wp2_with (go_at_call 45; refine hJ.mono ?_; rintro e w9 ⟨rfl, hb9⟩; have B9 := Ext.tr Bq hb9)
              exact bodyPost_ret (v := .tuple #[.string (⟨#[98, 121, 116, 101, 115, 61]⟩ ++ ti), .int .i64 0]) (by simp [results, Tryd.results15, go_sem]) rfl ⟨by rw [HD.out, HQ.out], B9⟩
end Go.Proofs.YtdmkfleiipfbgaaDoor
