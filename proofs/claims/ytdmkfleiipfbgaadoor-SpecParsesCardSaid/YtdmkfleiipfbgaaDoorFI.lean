/-
  The reference's item: itemQ.
-/
import Derived.Test.YtdmkfleiipfbgaaDoorFM
import Derived.Deep.QuietTactic
import Derived.BigQuiet
import Derived.WalkSmall
namespace Go.Proofs.YtdmkfleiipfbgaaDoor
open Go Go.RowKit

theorem cut_step {l : List UInt8} {k : Nat} {x : UInt8} {r : List UInt8} (hd : l.drop k = x :: r) (hr : r = l.drop (k + 1)) (hx : x ≠ 45)
    (h : Lib.cut l [45] = (l.take k ++ (Lib.cut (l.drop k) [45]).1, (Lib.cut (l.drop k) [45]).2.1, (Lib.cut (l.drop k) [45]).2.2)) :
    Lib.cut l [45] = (l.take (k + 1) ++ (Lib.cut (l.drop (k + 1)) [45]).1, (Lib.cut (l.drop (k + 1)) [45]).2.1, (Lib.cut (l.drop (k + 1)) [45]).2.2) := by
  rw [h, hd, cut_tl hx, ← hr]
  have : l[k]? = some x := by rw [← List.head?_drop, hd]; rfl
  rw [List.take_add_one, this]
  simp
theorem item_at {l : List UInt8} {k : Nat} (hd : l.drop k = 45 :: l.drop (k + 1))
    (h : Lib.cut l [45] = (l.take k ++ (Lib.cut (l.drop k) [45]).1, (Lib.cut (l.drop k) [45]).2.1, (Lib.cut (l.drop k) [45]).2.2)) :
    itemQ l = dashQ (l.take k) (l.drop (k + 1)) := by
  unfold itemQ
  rw [h, hd, cut_hd]
  simp
theorem item_no {l : List UInt8} {k : Nat} (hd : l.drop k = [])
    (h : Lib.cut l [45] = (l.take k ++ (Lib.cut (l.drop k) [45]).1, (Lib.cut (l.drop k) [45]).2.1, (Lib.cut (l.drop k) [45]).2.2)) :
    itemQ l = ((0, 0), false) := by
  unfold itemQ
  rw [h, hd, cut_nil]
  simp

theorem beq_t {a b : Int} (h : a = b) : (a == b) = true := by simpa using h
theorem beq_f {a b : Int} (h : a ≠ b) : (a == b) = false := by simpa using h
abbrev resI (r : Sp × Bool) : Value := .tuple #[.agg #[.int .i64 r.1.1, .int .i64 r.1.2], .bool r.2]
set_option maxHeartbeats 4000000 in
set_option maxRecDepth 4000 in
theorem ritem_any (s : ByteArray) (w : World) (hs : s.size ≤ 1000000) :
    Calls Tryd.prog 43 #[.string s] w fun e w' => e = .returned (resI (itemQ s.data.toList)) ∧ Below w.heap.size w w' := by
  go_enter Tryd.func43, Tryd.ntmps43
  go_wp2_with fail
  go_loop [4] (fun i => ∃ k : Nat, k ≤ s.size ∧ i = .int .i64 k ∧ Hid (Lib.cut s.data.toList [45] = (s.data.toList.take k ++ (Lib.cut (s.data.toList.drop k) [45]).1, (Lib.cut (s.data.toList.drop k) [45]).2.1, (Lib.cut (s.data.toList.drop k) [45]).2.2))) (fun i => s.size - (intOf i).toNat)
  case atStart => exact ⟨0, Nat.zero_le _, rfl, by unfold Hid; simp⟩
  case round =>
    obtain ⟨k, hk, rfl, HK⟩ := hrel
    by_cases hlt : k < s.size
    · have hd := drop_at4 s k hlt
      by_cases hc : (s[k].toNat : Int) = 45
      · have hx : s[k] = 45 := by
          apply UInt8.toNat_inj.1
          show s[k].toNat = 45; omega
        have HP : Hid (itemQ s.data.toList = dashQ (s.data.toList.take k) (s.data.toList.drop (k + 1))) := item_at (by rw [← hx]; exact hd) HK.out
        have c1 : ((s[k].toNat : Int) == 45) = true := by simpa using hc
        have c2 : ((s[k].toNat : Int) != 45) = false := by simpa using hc
        have hF := rnumber_any (s.extract 0 k)
        have e1 : (s.extract 0 k).data.toList = s.data.toList.take k := by
          rw [ByteArray.data_extract]; simp
        rw [e1] at hF
        have hG := rnumber_any (s.extract (k + 1) s.size)
        have e2 : (s.extract (k + 1) s.size).data.toList = s.data.toList.drop (k + 1) := by
          rw [ByteArray.data_extract]; show (s.data.extract (k + 1) s.data.size).toList = _; simp; exact List.take_of_length_le (by rw [List.length_drop, ← Lib.size_eq]; omega)
        rw [e2] at hG
        have HU : Hid (s.data.toList.take k = [] ↔ k = 0) := by
          unfold Hid
          constructor
          · intro q; have := congrArg List.length q; rw [List.length_take, ← Lib.size_eq, Nat.min_eq_left hk] at this; exact this
          · intro q; subst q; rfl
        have HV : Hid (s.data.toList.drop (k + 1) = [] ↔ k + 1 = s.size) := by
          unfold Hid
          constructor
          · intro q; have := congrArg List.length q; rw [List.length_drop, ← Lib.size_eq] at this; simp at this; omega
          · intro q; exact List.drop_eq_nil_of_le (by rw [← Lib.size_eq]; omega)
        have HD : Hid (∀ F G, numQ (s.data.toList.take k) = F → numQ (s.data.toList.drop (k + 1)) = G → itemQ s.data.toList = if k = 0 then ((-1, G), decide (0 ≤ G)) else if k + 1 = s.size then ((F, -1), decide (0 ≤ F)) else ((F, G), decide (0 ≤ F) && decide (F ≤ G))) := by
          unfold Hid
          rintro F G rfl rfl
          rw [HP.out]
          unfold dashQ
          by_cases h0 : k = 0
          · rw [if_pos (HU.out.2 h0), if_pos h0]
          · rw [if_neg (fun q => h0 (HU.out.1 q)), if_neg h0]
            by_cases h1 : k + 1 = s.size
            · rw [if_pos (HV.out.2 h1), if_pos h1]
            · rw [if_neg (fun q => h1 (HV.out.1 q)), if_neg h1]
        have bF := numQ_bnd (s.data.toList.take k)
        have bG := numQ_bnd (s.data.toList.drop (k + 1))
        obtain ⟨F, hFe⟩ : ∃ F, numQ (s.data.toList.take k) = F := ⟨_, rfl⟩
        obtain ⟨G, hGe⟩ : ∃ G, numQ (s.data.toList.drop (k + 1)) = G := ⟨_, rfl⟩
        have HR := Lib.hid (HD.out F G hFe hGe)
        rw [hFe] at hF bF
        rw [hGe] at hG bG
        have HFc : Hid (∀ w, Calls Tryd.prog 68 #[.string (s.extract 0 k)] w fun e w' => e = .returned (.int .i64 F) ∧ w' = w) := fun w => (hF w).mono fun _ _ h => ⟨h.1, h.2.symm⟩
        have HGc : Hid (∀ w, Calls Tryd.prog 68 #[.string (s.extract (k + 1) s.size)] w fun e w' => e = .returned (.int .i64 G) ∧ w' = w) := fun w => (hG w).mono fun _ _ h => ⟨h.1, h.2.symm⟩
        have d0 : (0 : Int) ≤ (k : Int) := by omega
        have d1 : (k : Int) ≤ (s.size : Int) := by omega
        have d3 : (0 : Int) ≤ (k : Int) + 1 := by omega
        have d4 : (k : Int) + 1 ≤ (s.size : Int) := by omega
        have d2 : IntKind.i64.wrap ((k : Int) + 1) = (k : Int) + 1 := IntWalk.i64_in _ (by omega)
        have d5 : ((k : Int) + 1).toNat = k + 1 := by omega
        clear hF hG hFe hGe e1 e2 HU HV HD HP HK hd hx hc
        by_cases h0 : k = 0
        · have HY : Hid (itemQ s.data.toList = ((-1, G), decide (0 ≤ G))) := by unfold Hid; rw [HR.out, if_pos h0]
          have q0 : Hid (((k : Int) == 0) = true) := beq_t (by omega)
          clear h0
          go_wp2_with fail
          go_quiet ((go_at_call 68; first | (with_reducible exact Calls.quiet_of_same (HFc.out _)) | (with_reducible exact Calls.quiet_of_same (HGc.out _))))
          have q0 := q0.out
          go_wp2_with fail
          exact bodyPost_ret (v := .tuple #[.agg #[.int .i64 (-1), .int .i64 G], .bool (decide (0 ≤ G))]) (by simp [results, Tryd.results43, go_sem]) rfl ⟨by rw [HY.out], by go_grown; exact below_drewN (by go_grown) _⟩
        · have q0 : Hid (((k : Int) == 0) = false) := beq_f (by omega)
          have h0 := Lib.hid h0
          by_cases h1 : k + 1 = s.size
          · have HY : Hid (itemQ s.data.toList = ((F, -1), decide (0 ≤ F))) := by unfold Hid; rw [HR.out, if_neg h0.out, if_pos h1]
            have q1 : Hid (((k : Int) + 1 == (s.size : Int)) = true) := beq_t (by omega)
            clear h1 h0
            go_wp2_with fail
            go_quiet ((go_at_call 68; first | (with_reducible exact Calls.quiet_of_same (HFc.out _)) | (with_reducible exact Calls.quiet_of_same (HGc.out _))))
            have q0 := q0.out
            have q1 := q1.out
            go_wp2_with fail
            exact bodyPost_ret (v := .tuple #[.agg #[.int .i64 F, .int .i64 (-1)], .bool (decide (0 ≤ F))]) (by simp [results, Tryd.results43, go_sem]) rfl ⟨by rw [HY.out], by go_grown; exact below_drewN (by go_grown) _⟩
          · have q1 : Hid (((k : Int) + 1 == (s.size : Int)) = false) := beq_f (by omega)
            have h1 := Lib.hid h1
            by_cases hF0 : 0 ≤ F
            · have HY : Hid (itemQ s.data.toList = ((F, G), decide (F ≤ G))) := by unfold Hid; rw [HR.out, if_neg h0.out, if_neg h1.out, decide_eq_true hF0]; rfl
              go_wp2_with fail
              go_quiet ((go_at_call 68; first | (with_reducible exact Calls.quiet_of_same (HFc.out _)) | (with_reducible exact Calls.quiet_of_same (HGc.out _))))
              have q0 := q0.out
              have q1 := q1.out
              go_wp2_with fail
              exact bodyPost_ret (v := .tuple #[.agg #[.int .i64 F, .int .i64 G], .bool (decide (F ≤ G))]) (by simp [results, Tryd.results43, go_sem]) rfl ⟨by rw [HY.out], by go_grown; exact below_drewN (by go_grown) _⟩
            · have HY : Hid (itemQ s.data.toList = ((F, G), false)) := by unfold Hid; rw [HR.out, if_neg h0.out, if_neg h1.out, decide_eq_false hF0]; rfl
              go_wp2_with fail
              go_quiet ((go_at_call 68; first | (with_reducible exact Calls.quiet_of_same (HFc.out _)) | (with_reducible exact Calls.quiet_of_same (HGc.out _))))
              have q0 := q0.out
              have q1 := q1.out
              go_wp2_with fail
              exact bodyPost_ret (v := .tuple #[.agg #[.int .i64 F, .int .i64 G], .bool false]) (by simp [results, Tryd.results43, go_sem]) rfl ⟨by rw [HY.out], by go_grown; exact below_drewN (by go_grown) _⟩
      · have HX : Hid (Lib.cut s.data.toList [45] = (s.data.toList.take (k + 1) ++ (Lib.cut (s.data.toList.drop (k + 1)) [45]).1, (Lib.cut (s.data.toList.drop (k + 1)) [45]).2.1, (Lib.cut (s.data.toList.drop (k + 1)) [45]).2.2)) :=
          cut_step hd rfl (fun e => hc (by rw [e]; rfl)) HK.out
        have c1 : ((s[k].toNat : Int) == 45) = false := by simpa using hc
        have c2 : ((s[k].toNat : Int) != 45) = true := by simpa using hc
        clear hc HK hd
        go_wp2_with fail
        go_round
        case rel => exact ⟨k + 1, by omega, by go_num, HX⟩
        case measure => simp [intOf]; omega
    · obtain rfl : k = s.size := by omega
      have HY : Hid (itemQ s.data.toList = ((0, 0), false)) := item_no (List.drop_eq_nil_of_le (by rw [← Lib.size_eq]; exact Nat.le_refl _)) HK.out
      clear HK
      go_wp2_with fail
      exact bodyPost_ret (v := .tuple #[.agg #[.int .i64 0, .int .i64 0], .bool false]) (by simp [results, Tryd.results43, go_sem]) rfl ⟨by rw [HY.out], by go_grown⟩
end Go.Proofs.YtdmkfleiipfbgaaDoor
