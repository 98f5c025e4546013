/-
  The reference's Parse of every text.
-/
import Derived.Test.YtdmkfleiipfbgaaDoorFX
import Derived.Test.YtdmkfleiipfbgaaDoorFO
import Derived.Test.YtdmkfleiipfbgaaDoorFI
import Derived.Test.YtdmkfleiipfbgaaDoorFR
namespace Go.Proofs.YtdmkfleiipfbgaaDoor
open Go Go.RowKit

theorem extr (s : ByteArray) (a b : Nat) (_hb : b ≤ s.size) : (s.extract a b).data.toList = (s.data.toList.take b).drop a := by
  rw [ByteArray.data_extract, Array.toList_extract]
  simp
  try rw [List.drop_take]
theorem extr_more (s : ByteArray) {a k : Nat} (h : k < s.size) (ha : a ≤ k) : (s.extract a (k + 1)).data.toList = (s.extract a k).data.toList ++ [s[k]] := by
  rw [extr s a (k + 1) (by omega), extr s a k (by omega)]
  have : s.data.toList[k]? = some s[k] := by rw [← List.head?_drop, drop_at4 s k h]; rfl
  rw [List.take_add_one, this, List.drop_append_of_le_length (by rw [List.length_take, ← Lib.size_eq]; omega)]
  rfl
theorem extr_none (s : ByteArray) {k : Nat} (h : k ≤ s.size) : (s.extract k k).data.toList = [] := by
  rw [extr s k k h]
  exact List.drop_eq_nil_of_le (by rw [List.length_take]; omega)

/-- what stands at byte k, from its piece's start -/
def Inv (s : ByteArray) (R0 : Option (List Sp)) (k fr : Nat) (acc : List Sp) : Prop :=
  (k ≤ s.size → goQ (glue (s.extract fr k).data.toList (pieces (s.data.toList.drop k))) acc = R0) ∧ (k = s.size + 1 → R0 = some acc)
theorem Inv.more {s : ByteArray} {R0 : Option (List Sp)} {k fr : Nat} {acc : List Sp} (h : Inv s R0 k fr acc) (hk : k < s.size) (hf : fr ≤ k) (hx : s[k] ≠ 44) : Inv s R0 (k + 1) fr acc := by
  refine ⟨fun _ => ?_, fun h2 => by omega⟩
  rw [extr_more s hk hf, ← glue_more _ hx, ← drop_at4 s k hk]
  exact h.1 (by omega)
theorem Inv.item {s : ByteArray} {R0 : Option (List Sp)} {k fr : Nat} {acc : List Sp} (h : Inv s R0 k fr acc) (hk : k ≤ s.size) (hx : ∀ h : k < s.size, s[k] = 44) :
    (stepQ (s.extract fr k).data.toList acc = none → R0 = none) ∧ ∀ a, stepQ (s.extract fr k).data.toList acc = some a → Inv s R0 (k + 1) (k + 1) a := by
  have h1 := h.1 hk
  by_cases hlt : k < s.size
  · rw [drop_at4 s k hlt, hx hlt, glue_comma] at h1
    unfold goQ at h1
    refine ⟨fun e => by rw [← h1, e]; rfl, fun a e => ⟨fun _ => ?_, fun h2 => by omega⟩⟩
    rw [extr_none s (by omega), glue_nil, ← h1, e]; rfl
  · rw [List.drop_eq_nil_of_le (by rw [← Lib.size_eq]; omega), glue_end] at h1
    unfold goQ at h1
    refine ⟨fun e => by rw [← h1, e]; rfl, fun a e => ⟨fun h2 => by omega, fun _ => ?_⟩⟩
    rw [← h1, e]; rfl

set_option maxHeartbeats 8000000 in
theorem rparse_any (s : ByteArray) (w : World) (hs : s.size ≤ 1000000) :
    Calls Tryd.prog 13 #[.string s] w fun e w' => ParsePost s.data.toList w w' e := by
  obtain ⟨D, HD⟩ : ∃ D, Hid (parseD s.data.toList = D) := ⟨_, rfl⟩
  have HE : Hid (D = if headQ s.data.toList then endP (goQ (pieces (s.data.toList.drop 6)) []) else ([], 2)) := by
    unfold Hid; rw [← HD.out, ← parse_same]; rfl
  unfold ParsePost
  rw [HD.out]
  clear HD
  by_cases h6 : s.size < 6
  · have HF : Hid (D = ([], 2)) := by unfold Hid; rw [HE.out, if_neg (fun h => by have := h.1; rw [← Lib.size_eq] at this; omega)]
    rw [HF.out]
    go_enter Tryd.func13, Tryd.ntmps13
    go_wp2_with fail
    exact bodyPost_ret (v := .tuple #[.slice none 0 0, .int .i64 2]) (by simp [results, Tryd.results13, go_sem]) rfl ⟨_, rfl, IsSp.nil _, Below.refl _ _⟩
  · have hsm := fun W => small_any (s.extract 0 6) W (by rw [ByteArray.size_extract]; omega)
    rw [extr s 0 6 (by omega), List.drop_zero] at hsm
    by_cases hh : headQ s.data.toList
    · have HF : Hid (D = endP (goQ (pieces (s.data.toList.drop 6)) [])) := by unfold Hid; rw [HE.out, if_pos hh]
      rw [hh.2] at hsm
      have HSM := Lib.hid hsm
      obtain ⟨R0, HR⟩ : ∃ R, Hid (goQ (pieces (s.data.toList.drop 6)) [] = R) := ⟨_, rfl⟩
      have HI0 : Hid (Inv s R0 6 6 []) := by
        refine ⟨fun _ => ?_, fun h2 => by omega⟩
        rw [extr_none s (by omega), glue_nil]; exact HR.out
      have HX0 : Hid (D = endP R0) := by unfold Hid; rw [HF.out, HR.out]
      clear HF HR HE hh hsm
      go_enter Tryd.func13, Tryd.ntmps13
      go_wp2_with (go_at_call 41; with_reducible refine (HSM.out _).mono ?_; rintro e w1 ⟨rfl, hb1⟩)
      go_loopw [4, 5, 6] (fun vl vf vi wr => ∃ (acc : List Sp) (k fr : Nat), vf = .int .i64 fr ∧ vi = .int .i64 k ∧ OwnR wr w.heap.size vl acc ∧ k ≤ s.size + 1 ∧ fr ≤ k ∧ acc.length ≤ fr ∧ Hid (Inv s R0 k fr acc) ∧ Below w.heap.size w wr) (fun _ _ vi _ => s.size + 1 - (intOf vi).toNat)
      case atStart => exact ⟨[], 6, 6, rfl, rfl, World.ownsRow_nil _ _ _ _, by omega, by omega, by simp, HI0, hb1⟩
      case round =>
        clear hb1 HI0
        obtain ⟨acc, k, fr, rfl, rfl, hown, hk, hfr, hacc, HG, hbel⟩ := hrel
        by_cases hend : k = s.size + 1
        · have HX : Hid (D = endP (some acc)) := by unfold Hid; rw [HX0.out, HG.out.2 hend]
          have hkend : s.size < k := by omega
          clear HG HX0 hend
          obtain ⟨A2, n2, c2, rfl, HN2, hc2, hs2⟩ := (IsSp.ownR hown).split
          have HS2 := Lib.hid hs2
          clear hs2 hown
          have hn2 : n2 ≤ 1000001 := by have := HN2.out; omega
          by_cases h0 : n2 = 0
          · subst h0
            have HY : Hid (D = ([], 2)) := by unfold Hid; rw [HX.out]; simp only [endP]; rw [if_pos HN2.out]
            go_wp2_with fail
            exact bodyPost_ret (v := .tuple #[.slice none 0 0, .int .i64 2]) (by simp [results, Tryd.results13, go_sem]) rfl ⟨.slice none 0 0, by rw [HY.out], by rw [HY.out]; exact IsSp.nil _, hbel⟩
          · by_cases h64 : 64 < n2
            · have HY : Hid (D = ([], 4)) := by unfold Hid; rw [HX.out]; simp only [endP]; rw [if_neg (by have := HN2.out; omega), if_pos (by have := HN2.out; omega)]
              go_wp2_with fail
              exact bodyPost_ret (v := .tuple #[.slice none 0 0, .int .i64 4]) (by simp [results, Tryd.results13, go_sem]) rfl ⟨.slice none 0 0, by rw [HY.out], by rw [HY.out]; exact IsSp.nil _, hbel⟩
            · have HY : Hid (D = (acc, 0)) := by unfold Hid; rw [HX.out]; simp only [endP]; rw [if_neg (by have := HN2.out; omega), if_neg (by have := HN2.out; omega)]
              go_wp2_with fail
              exact bodyPost_ret (v := .tuple #[.slice A2 n2 c2, .int .i64 0]) (by simp [results, Tryd.results13, go_sem]) rfl ⟨.slice A2 n2 c2, by rw [HY.out], by rw [HY.out]; exact IsSp.mk' HN2.out hc2 HS2.out, hbel⟩
        · have hk' : k ≤ s.size := by omega
          clear hend hk
          by_cases hmid : ∃ h : k < s.size, s[k] ≠ 44
          · obtain ⟨hlt, hx⟩ := hmid
            have HK : Hid (Inv s R0 (k + 1) fr acc) := HG.out.more hlt hfr hx
            have c2 : ((s[k].toNat : Int) != 44) = true := by
              rw [bne_iff_ne]
              intro e
              exact hx (by apply UInt8.toNat_inj.1; show s[k].toNat = 44; omega)
            clear HG hx
            go_wp2_with fail
            go_roundw
            case rel => exact ⟨acc, k + 1, fr, rfl, by go_num, hown, by omega, by omega, hacc, HK, hbel⟩
            case measure => simp [intOf]; omega
          · have HIT := Lib.hid (HG.out.item hk' (fun h => Classical.not_not.1 (fun hx => hmid ⟨h, hx⟩)))
            have hft := fun W => bare_any (s.extract fr k) W (by rw [ByteArray.size_extract]; omega)
            have htl := trimS_len (s.extract fr k).data.toList [32, 9]
            rw [← Lib.size_eq, ByteArray.size_extract] at htl
            have hem : (⟨(Lib.trimS (s.extract fr k).data.toList [32, 9]).toArray⟩ : ByteArray).toList.isEmpty = decide (Lib.trimS (s.extract fr k).data.toList [32, 9] = []) := ba_empty _
            have hts : (⟨(Lib.trimS (s.extract fr k).data.toList [32, 9]).toArray⟩ : ByteArray).size ≤ 1000000 := by rw [ba_size]; omega
            have hrg := fun W => ritem_any ⟨(Lib.trimS (s.extract fr k).data.toList [32, 9]).toArray⟩ W hts
            simp only [resI] at hrg
            have HSP : Hid (stepQ (s.extract fr k).data.toList acc = if Lib.trimS (s.extract fr k).data.toList [32, 9] = [] then some acc else if (itemQ (Lib.trimS (s.extract fr k).data.toList [32, 9])).2 = true then some (acc ++ [(itemQ (Lib.trimS (s.extract fr k).data.toList [32, 9])).1]) else Option.none) := rfl
            generalize stepQ (s.extract fr k).data.toList acc = sq at *
            generalize (⟨(Lib.trimS (s.extract fr k).data.toList [32, 9]).toArray⟩ : ByteArray) = tb at *
            generalize itemQ (Lib.trimS (s.extract fr k).data.toList [32, 9]) = rg at *
            generalize Lib.trimS (s.extract fr k).data.toList [32, 9] = tl at *
            obtain ⟨⟨x, y⟩, ok⟩ := rg
            simp only at hrg HSP
            have HFT : Hid (∀ W, Calls Tryd.prog 42 #[.string (s.extract fr k)] W fun e w' => e = .returned (.string tb) ∧ W = w') := hft
            have HRG := Lib.hid hrg
            have HM := Lib.hid hmid
            clear hft hrg HG htl hts hmid
            have d0 : (0 : Int) ≤ (fr : Int) := by omega
            have d1 : (fr : Int) ≤ (k : Int) := by omega
            have d2 : (k : Int) ≤ (s.size : Int) := by omega
            by_cases hlt : k < s.size
            · have c2 : ((s[k].toNat : Int) != 44) = false := by
                rw [bne_eq_false_iff_eq]
                have := Classical.not_not.1 (fun hx => HM.out ⟨hlt, hx⟩)
                rw [this]; rfl
              clear HM
              by_cases hte : tl = []
              · have hem' : tb.toList.isEmpty = true := by rw [hem]; simpa using hte
                have HK : Hid (Inv s R0 (k + 1) (k + 1) acc) := HIT.out.2 _ (by rw [HSP.out, if_pos hte])
                clear hem HSP HIT HRG hte
                go_wp2_with (go_at_call 42; with_reducible refine (HFT.out _).mono ?_; rintro e w3 ⟨rfl, rfl⟩)
                go_roundw
                case rel => exact ⟨acc, k + 1, k + 1, by go_num, by go_num, hown, by omega, by omega, by omega, HK, hbel⟩
                case measure => simp [intOf]; omega
              · have hem' : tb.toList.isEmpty = false := by rw [hem]; simpa using hte
                obtain ⟨A2, n2, c2, rfl, HN2, hc2, -⟩ := (IsSp.ownR hown).split
                have hn2 : n2 ≤ 1000001 := by have := HN2.out; omega
                cases ok with
                | false =>
                  have HY : Hid (D = ([], 2)) := by
                    unfold Hid; rw [HX0.out, HIT.out.1 (by rw [HSP.out, if_neg hte]; rfl)]; rfl
                  clear hem HSP HIT hte
                  go_wp2_with (first
                    | (go_at_call 42; with_reducible refine (HFT.out _).mono ?_; rintro e w3 ⟨rfl, rfl⟩)
                    | (go_at_call 43; with_reducible refine (HRG.out _).mono ?_; rintro e w4 ⟨rfl, hb4⟩; have B4 := hbel.trans (hb4.mono hbel.size); clear hb4))
                  exact bodyPost_ret (v := .tuple #[.slice none 0 0, .int .i64 2]) (by simp [results, Tryd.results13, go_sem]) rfl ⟨.slice none 0 0, by rw [HY.out], by rw [HY.out]; exact IsSp.nil _, B4.alloc B4.size _⟩
                | true =>
                  have HK : Hid (Inv s R0 (k + 1) (k + 1) (acc ++ [(x, y)])) := HIT.out.2 _ (by rw [HSP.out, if_neg hte, if_pos rfl])
                  clear hem HSP HIT hte
                  go_wp2_with (first
                    | (go_at_call 42; with_reducible refine (HFT.out _).mono ?_; rintro e w3 ⟨rfl, rfl⟩)
                    | (go_at_call 43; with_reducible refine (HRG.out _).mono ?_; rintro e w4 ⟨rfl, hb4⟩; have B4 := hbel.trans (hb4.mono hbel.size); have own4 := Below.ownR hown hb4; have B5 : Below w.heap.size w (w4.alloc (.cells #[.int .i64 x, .int .i64 y] 32)) := B4.alloc B4.size _; have own5 : OwnR (w4.alloc (.cells #[.int .i64 x, .int .i64 y] 32)) w.heap.size _ acc := own4.alloc _; clear hb4 hown; have tok : True := trivial)
                    | (at_builtin; have _t := tok; refine app_spec_at (w4.alloc (.cells #[.int .i64 x, .int .i64 y] 32)) (w4.heap.size + 1) (by simp) (by rfl) _ _ (by rfl) w.heap.size _ acc x y (by rfl) own5 (by rfl) (by omega) B5.size ?_; intro v6 w6 hown6 hgrow; have B6 : Below w.heap.size w w6 := below_app B5 B5.size own5 hgrow; clear hgrow own5 B5 tok))
                  go_roundw
                  case rel => exact ⟨acc ++ [(x, y)], k + 1, k + 1, by go_num, by go_num, hown6, by omega, by omega, by simp; omega, HK, B6⟩
                  case measure => simp [intOf]; omega
            · clear HM
              by_cases hte : tl = []
              · have hem' : tb.toList.isEmpty = true := by rw [hem]; simpa using hte
                have HK : Hid (Inv s R0 (k + 1) (k + 1) acc) := HIT.out.2 _ (by rw [HSP.out, if_pos hte])
                clear hem HSP HIT HRG hte
                go_wp2_with (go_at_call 42; with_reducible refine (HFT.out _).mono ?_; rintro e w3 ⟨rfl, rfl⟩)
                go_roundw
                case rel => exact ⟨acc, k + 1, k + 1, by go_num, by go_num, hown, by omega, by omega, by omega, HK, hbel⟩
                case measure => simp [intOf]; omega
              · have hem' : tb.toList.isEmpty = false := by rw [hem]; simpa using hte
                obtain ⟨A2, n2, c2, rfl, HN2, hc2, -⟩ := (IsSp.ownR hown).split
                have hn2 : n2 ≤ 1000001 := by have := HN2.out; omega
                cases ok with
                | false =>
                  have HY : Hid (D = ([], 2)) := by
                    unfold Hid; rw [HX0.out, HIT.out.1 (by rw [HSP.out, if_neg hte]; rfl)]; rfl
                  clear hem HSP HIT hte
                  go_wp2_with (first
                    | (go_at_call 42; with_reducible refine (HFT.out _).mono ?_; rintro e w3 ⟨rfl, rfl⟩)
                    | (go_at_call 43; with_reducible refine (HRG.out _).mono ?_; rintro e w4 ⟨rfl, hb4⟩; have B4 := hbel.trans (hb4.mono hbel.size); clear hb4))
                  exact bodyPost_ret (v := .tuple #[.slice none 0 0, .int .i64 2]) (by simp [results, Tryd.results13, go_sem]) rfl ⟨.slice none 0 0, by rw [HY.out], by rw [HY.out]; exact IsSp.nil _, B4.alloc B4.size _⟩
                | true =>
                  have HK : Hid (Inv s R0 (k + 1) (k + 1) (acc ++ [(x, y)])) := HIT.out.2 _ (by rw [HSP.out, if_neg hte, if_pos rfl])
                  clear hem HSP HIT hte
                  go_wp2_with (first
                    | (go_at_call 42; with_reducible refine (HFT.out _).mono ?_; rintro e w3 ⟨rfl, rfl⟩)
                    | (go_at_call 43; with_reducible refine (HRG.out _).mono ?_; rintro e w4 ⟨rfl, hb4⟩; have B4 := hbel.trans (hb4.mono hbel.size); have own4 := Below.ownR hown hb4; have B5 : Below w.heap.size w (w4.alloc (.cells #[.int .i64 x, .int .i64 y] 32)) := B4.alloc B4.size _; have own5 : OwnR (w4.alloc (.cells #[.int .i64 x, .int .i64 y] 32)) w.heap.size _ acc := own4.alloc _; clear hb4 hown; have tok : True := trivial)
                    | (at_builtin; have _t := tok; refine app_spec_at (w4.alloc (.cells #[.int .i64 x, .int .i64 y] 32)) (w4.heap.size + 1) (by simp) (by rfl) _ _ (by rfl) w.heap.size _ acc x y (by rfl) own5 (by rfl) (by omega) B5.size ?_; intro v6 w6 hown6 hgrow; have B6 : Below w.heap.size w w6 := below_app B5 B5.size own5 hgrow; clear hgrow own5 B5 tok))
                  go_roundw
                  case rel => exact ⟨acc ++ [(x, y)], k + 1, k + 1, by go_num, by go_num, hown6, by omega, by omega, by simp; omega, HK, B6⟩
                  case measure => simp [intOf]; omega
    · have HF : Hid (D = ([], 2)) := by unfold Hid; rw [HE.out, if_neg hh]
      rw [HF.out]
      have hne : ¬ (s.data.toList.take 6).map low = [98, 121, 116, 101, 115, 61] := fun e => hh ⟨by rw [← Lib.size_eq]; omega, e⟩
      have hbn : (((⟨((s.data.toList.take 6).map low).toArray⟩ : ByteArray).toList == [98, 121, 116, 101, 115, 61]) = false) := by
        rw [ByteArray.toList_eq, ba_list, beq_eq_false_iff_ne]; exact hne
      generalize (⟨((s.data.toList.take 6).map low).toArray⟩ : ByteArray) = ub at *
      have HSM := Lib.hid hsm
      clear hne hh hsm HE HF
      go_enter Tryd.func13, Tryd.ntmps13
      go_wp2_with (go_at_call 41; with_reducible refine (HSM.out _).mono ?_; rintro e w1 ⟨rfl, hb1⟩)
      exact bodyPost_ret (v := .tuple #[.slice none 0 0, .int .i64 2]) (by simp [results, Tryd.results13, go_sem]) rfl ⟨_, rfl, IsSp.nil _, hb1⟩
end Go.Proofs.YtdmkfleiipfbgaaDoor
