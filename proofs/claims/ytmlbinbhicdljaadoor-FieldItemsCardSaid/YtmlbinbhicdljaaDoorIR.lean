/-
  The reference's items.
-/
import Derived.Test.YtmlbinbhicdljaaDoorIC
import Derived.Test.YtmlbinbhicdljaaDoorER
namespace Go.Proofs.YtmlbinbhicdljaaDoor
open Go Go.RowKit

def trimT (p : List UInt8) : ByteArray := ⟨(trimB p).toArray⟩
def keepB (b : ByteArray) : Bool := !b.toList.isEmpty
theorem keep_filter : ∀ l : List (List UInt8), (l.map trimT).filter keepB = l.flatMap keepI
  | [] => rfl
  | p :: l => by
    rw [List.map_cons, List.filter_cons, keep_filter l, List.flatMap_cons]
    have e : keepB (trimT p) = !decide (trimB p = []) := by unfold keepB trimT; rw [ba_empty]
    rw [e]
    unfold keepI
    by_cases h : trimB p = []
    · rw [if_pos h]; simp [h]
    · rw [if_neg h]; simp [h]; rfl
theorem ext_one {s : ByteArray} {k : Nat} (h : k < s.size) {cur : ByteArray} : (cur ++ s.extract k (k + 1)).data.toList = cur.data.toList ++ [s[k]] := by
  have e : (s.extract k (k + 1)).data.toList = [s[k]] := by
    rw [ByteArray.data_extract, Array.toList_extract, List.extract_eq_take_drop, drop_at4 s k h]
    simp
  rw [ByteArray.data_append, Array.toList_append, e]
theorem ext_size {s : ByteArray} {k : Nat} (h : k < s.size) : (s.extract k (k + 1)).size = 1 := by rw [ByteArray.size_extract]; omega

theorem step_true {x : UInt8} (h1 : x.toNat ≠ 92) (h2 : x.toNat ≠ 34) : stepQ true false x = (true, false) := by
  unfold stepQ
  rw [if_neg (by simp), if_neg (show ¬ (true = true ∧ x = (92 : UInt8)) from fun e => h1 ((u8_iff _ 92 (by omega)).1 e.2)), if_neg (show ¬ x = (34 : UInt8) from fun e => h2 ((u8_iff _ 34 (by omega)).1 e))]
theorem step_slash {x : UInt8} (h1 : x.toNat = 92) : stepQ true false x = (true, true) := by
  rw [(u8_iff _ 92 (by omega)).2 h1]; rfl
theorem step_quote {x : UInt8} (h1 : x.toNat = 34) : stepQ true false x = (false, false) := by
  rw [(u8_iff _ 34 (by omega)).2 h1]; rfl
theorem step_open {x : UInt8} (h1 : x.toNat = 34) : stepQ false false x = (true, false) := by
  rw [(u8_iff _ 34 (by omega)).2 h1]; rfl
theorem step_out {x : UInt8} (h2 : x.toNat ≠ 34) : stepQ false false x = (false, false) := by
  unfold stepQ
  rw [if_neg (by simp), if_neg (by simp), if_neg (show ¬ x = (34 : UInt8) from fun e => h2 ((u8_iff _ 34 (by omega)).1 e))]

set_option maxHeartbeats 8000000 in
set_option maxRecDepth 20000 in
theorem ritems_any (s : ByteArray) (w : World) (hs : s.size ≤ 10000) :
    Calls Tryd.prog 39 #[.string s] w fun e w' => ∃ v, e = .returned v ∧ OwnX w' w.heap.size v ((partsI false false s.data.toList).map trimT) ∧ Below w.heap.size w w' := by
  go_enter Tryd.func39, Tryd.ntmps39
  go_wp2
  go_loopw [3, 4, 5, 6, 7] (fun vl vc vq vn vi wr => ∃ (k : Nat) (q n : Bool) (acc : List (List UInt8)) (cur : ByteArray), vi = .int .i64 k ∧ vq = .bool q ∧ vn = .bool n ∧ vc = .string cur ∧ k ≤ s.size ∧ (n = true → q = true) ∧ cur.size ≤ k ∧ acc.length ≤ k ∧ OwnX wr w.heap.size vl (acc.map trimT) ∧ Hid (PartAt s k q n acc cur.data.toList) ∧ Below w.heap.size w wr) (fun _ _ _ _ vi _ => s.size - (intOf vi).toNat)
  case atStart => exact ⟨0, false, false, [], ⟨#[]⟩, rfl, rfl, rfl, rfl, Nat.zero_le _, by simp, Nat.le_refl _, Nat.le_refl _, World.ownsRow_nil _ _ _ _, PartAt.zero s, Below.refl _ _⟩
  case round =>
    obtain ⟨k, q, n, acc, cur, rfl, rfl, rfl, rfl, hk, hnq, hcs, hal, hown, HG, hbel⟩ := hrel
    have htr0 := fun W => rtrim_any cur W (by omega)
    obtain ⟨tb, htb⟩ : ∃ tb, Hid (tb = trimT cur.data.toList) := ⟨_, rfl⟩
    have htr : ∀ W, Calls Tryd.prog 47 #[.string cur] W fun e w' => e = .returned (.string tb) ∧ W = w' := fun W => by rw [htb.out]; exact htr0 W
    clear htr0
    by_cases hlt : k < s.size
    · have d0 : (0 : Int) ≤ (k : Int) := by omega
      have d3 : (k : Int) ≤ (k : Int) + 1 := by omega
      have d4 : (k : Int) + 1 ≤ (s.size : Int) := by omega
      have d2 : IntKind.i64.wrap ((k : Int) + 1) = (k : Int) + 1 := IntWalk.i64_in _ (by omega)
      have d5 : ((k : Int) + 1).toNat = k + 1 := by omega
      have hcz : (cur ++ s.extract k (k + 1)).size ≤ k + 1 := by rw [ByteArray.size_append, ext_size hlt]; omega
      have hez := ext_size hlt
      have HC := Lib.hid (HG.out.more hlt)
      have HX : Hid (∀ m : Nat, m < 256 → (s[k] = UInt8.ofNat m ↔ s[k].toNat = m)) := fun m hm => u8_iff s[k] m hm
      cases n with
      | true =>
        obtain rfl : q = true := hnq rfl
        clear hnq
        have b44 : ∀ b : Bool, (b && !true) = false := fun b => by simp
        by_cases g44 : s[k].toNat = 44
        · have b1 : ((s[k].toNat : Int) == 44) = true := beqi_t (by omega)
          clear htr
          have HK : Hid (PartAt s (k + 1) true false acc (cur ++ s.extract k (k + 1)).data.toList) := by
            have h := HC.out (by simp)
            rw [show stepQ true true s[k] = (true, false) from rfl] at h
            unfold Hid; rw [ext_one hlt]; exact h
          clear HC HG HX
          go_wp2_with fail
          go_roundw
          case rel => exact ⟨k + 1, true, false, acc, cur ++ s.extract k (k + 1), by go_num, rfl, rfl, rfl, by omega, by simp, hcz, by omega, hown, HK, hbel⟩
          case measure => simp [intOf]; omega
        · have b1 : ((s[k].toNat : Int) == 44) = false := beqi_f (by omega)
          clear htr
          have HK : Hid (PartAt s (k + 1) true false acc (cur ++ s.extract k (k + 1)).data.toList) := by
            have h := HC.out (by simp)
            rw [show stepQ true true s[k] = (true, false) from rfl] at h
            unfold Hid; rw [ext_one hlt]; exact h
          clear HC HG HX
          go_wp2_with fail
          go_roundw
          case rel => exact ⟨k + 1, true, false, acc, cur ++ s.extract k (k + 1), by go_num, rfl, rfl, rfl, by omega, by simp, hcz, by omega, hown, HK, hbel⟩
          case measure => simp [intOf]; omega
      | false =>
        clear hnq
        cases q with
        | true =>
          by_cases g44 : s[k].toNat = 44
          · have b1 : ((s[k].toNat : Int) == 44) = true := beqi_t (by omega)
            have b2 : ((s[k].toNat : Int) == 92) = false := beqi_f (by omega)
            have b3 : ((s[k].toNat : Int) == 34) = false := beqi_f (by omega)
            clear htr
            have HK : Hid (PartAt s (k + 1) true false acc (cur ++ s.extract k (k + 1)).data.toList) := by
              have h := HC.out (by simp)
              rw [show stepQ true false s[k] = (true, false) from step_true (by omega) (by omega)] at h
              unfold Hid; rw [ext_one hlt]; exact h
            clear HC HG HX
            go_wp2_with fail
            go_roundw
            case rel => exact ⟨k + 1, true, false, acc, cur ++ s.extract k (k + 1), by go_num, rfl, rfl, rfl, by omega, by simp, hcz, by omega, hown, HK, hbel⟩
            case measure => simp [intOf]; omega
          · have b1 : ((s[k].toNat : Int) == 44) = false := beqi_f (by omega)
            by_cases g92 : s[k].toNat = 92
            · have b2 : ((s[k].toNat : Int) == 92) = true := beqi_t (by omega)
              clear htr
              have HK : Hid (PartAt s (k + 1) true true acc (cur ++ s.extract k (k + 1)).data.toList) := by
                have h := HC.out (by simp)
                rw [show stepQ true false s[k] = (true, true) from step_slash g92] at h
                unfold Hid; rw [ext_one hlt]; exact h
              clear HC HG HX
              go_wp2_with fail
              go_roundw
              case rel => exact ⟨k + 1, true, true, acc, cur ++ s.extract k (k + 1), by go_num, rfl, rfl, rfl, by omega, by simp, hcz, by omega, hown, HK, hbel⟩
              case measure => simp [intOf]; omega
            · have b2 : ((s[k].toNat : Int) == 92) = false := beqi_f (by omega)
              by_cases g34 : s[k].toNat = 34
              · have b3 : ((s[k].toNat : Int) == 34) = true := beqi_t (by omega)
                clear htr
                have HK : Hid (PartAt s (k + 1) false false acc (cur ++ s.extract k (k + 1)).data.toList) := by
                  have h := HC.out (by simp)
                  rw [show stepQ true false s[k] = (false, false) from step_quote g34] at h
                  unfold Hid; rw [ext_one hlt]; exact h
                clear HC HG HX
                go_wp2_with fail
                go_roundw
                case rel => exact ⟨k + 1, false, false, acc, cur ++ s.extract k (k + 1), by go_num, rfl, rfl, rfl, by omega, by simp, hcz, by omega, hown, HK, hbel⟩
                case measure => simp [intOf]; omega
              · have b3 : ((s[k].toNat : Int) == 34) = false := beqi_f (by omega)
                clear htr
                have HK : Hid (PartAt s (k + 1) true false acc (cur ++ s.extract k (k + 1)).data.toList) := by
                  have h := HC.out (by simp)
                  rw [show stepQ true false s[k] = (true, false) from step_true g92 g34] at h
                  unfold Hid; rw [ext_one hlt]; exact h
                clear HC HG HX
                go_wp2_with fail
                go_roundw
                case rel => exact ⟨k + 1, true, false, acc, cur ++ s.extract k (k + 1), by go_num, rfl, rfl, rfl, by omega, by simp, hcz, by omega, hown, HK, hbel⟩
                case measure => simp [intOf]; omega
        | false =>
          by_cases g44 : s[k].toNat = 44
          · have b1 : ((s[k].toNat : Int) == 44) = true := beqi_t (by omega)
            have HK : Hid (PartAt s (k + 1) false false (acc ++ [cur.data.toList]) []) := HG.out.cut hlt ((HX.out 44 (by omega)).2 g44)
            have HM : Hid ((acc ++ [cur.data.toList]).map trimT = acc.map trimT ++ [tb]) := by unfold Hid; rw [List.map_append, List.map_singleton, ← htb.out]
            clear HC HG HX
            go_wp2_with (first
              | (go_at_call 47; with_reducible refine (htr _).mono ?_; rintro e w1 ⟨rfl, hww⟩; subst hww; have tok : True := trivial)
              | (at_builtin; have _t := tok; refine app_tx_at wr wr.heap.size rfl (by rfl) _ _ (by rfl) w.heap.size _ (acc.map trimT) tb (by rfl) hown (by rfl) (by rw [List.length_map]; omega) hbel.size ?_; intro v6 w6 hown6 hgrow; have B6 : Below w.heap.size w w6 := below_app hbel hbel.size hown hgrow; clear hgrow tok))
            go_roundw
            case rel => exact ⟨k + 1, false, false, acc ++ [cur.data.toList], ⟨#[]⟩, by go_num, rfl, rfl, rfl, by omega, by simp, Nat.zero_le _, by rw [List.length_append, List.length_singleton]; omega, by rw [HM.out]; exact hown6, HK, B6⟩
            case measure => simp [intOf]; omega
          · have b1 : ((s[k].toNat : Int) == 44) = false := beqi_f (by omega)
            have hne : ¬ (s[k] = 44 ∧ false = false) := fun e => g44 ((HX.out 44 (by omega)).1 e.1)
            have HNE := Lib.hid hne
            clear hne
            by_cases g34 : s[k].toNat = 34
            · have b3 : ((s[k].toNat : Int) == 34) = true := beqi_t (by omega)
              clear htr
              have HK : Hid (PartAt s (k + 1) true false acc (cur ++ s.extract k (k + 1)).data.toList) := by
                have h := HC.out (HNE.out)
                rw [show stepQ false false s[k] = (true, false) from step_open g34] at h
                unfold Hid; rw [ext_one hlt]; exact h
              clear HC HG HX
              go_wp2_with fail
              go_roundw
              case rel => exact ⟨k + 1, true, false, acc, cur ++ s.extract k (k + 1), by go_num, rfl, rfl, rfl, by omega, by simp, hcz, by omega, hown, HK, hbel⟩
              case measure => simp [intOf]; omega
            · have b3 : ((s[k].toNat : Int) == 34) = false := beqi_f (by omega)
              clear htr
              have HK : Hid (PartAt s (k + 1) false false acc (cur ++ s.extract k (k + 1)).data.toList) := by
                have h := HC.out (HNE.out)
                rw [show stepQ false false s[k] = (false, false) from step_out g34] at h
                unfold Hid; rw [ext_one hlt]; exact h
              clear HC HG HX
              go_wp2_with fail
              go_roundw
              case rel => exact ⟨k + 1, false, false, acc, cur ++ s.extract k (k + 1), by go_num, rfl, rfl, rfl, by omega, by simp, hcz, by omega, hown, HK, hbel⟩
              case measure => simp [intOf]; omega
    · obtain rfl : k = s.size := by omega
      have HF : Hid ((partsI false false s.data.toList).map trimT = acc.map trimT ++ [tb]) := by
        unfold Hid; rw [← HG.out.fin, List.map_append, List.map_singleton, ← htb.out]
      clear HG
      go_wp2_with (first
        | (go_at_call 47; with_reducible refine (htr _).mono ?_; rintro e w1 ⟨rfl, hww⟩; subst hww; have tok : True := trivial)
        | (at_builtin; have _t := tok; refine app_tx_at wr wr.heap.size rfl (by rfl) _ _ (by rfl) w.heap.size _ (acc.map trimT) tb (by rfl) hown (by rfl) (by rw [List.length_map]; omega) hbel.size ?_; intro v6 w6 hown6 hgrow; have B6 : Below w.heap.size w w6 := below_app hbel hbel.size hown hgrow; clear hgrow tok))
      go_ret
      exact ⟨_, rfl, by rw [HF.out]; exact hown6, B6⟩
end Go.Proofs.YtmlbinbhicdljaaDoor
