/-
  spec.Parse by a contract: the ranges of a value whose unit is of ASCII letters, or what is wrong.
-/
import Derived.Test.YtdmkfleiipfbgaaDoorPF
namespace Go.Proofs.YtdmkfleiipfbgaaDoor
open Go Go.RowKit

def msr (vi vm : Value) : Nat := match vm, vi with
  | .bool true, .string b => b.size + 1
  | _, _ => 0
def ParsePost (s : List UInt8) (w w' : World) (e : Ending) : Prop :=
  ∃ v, e = .returned (.tuple #[v, .int .i64 (parseD s).2]) ∧ IsSp w' v (parseD s).1 ∧ Below w.heap.size w w'
theorem ba_list (l : List UInt8) : (⟨l.toArray⟩ : ByteArray).data.toList = l := rfl
theorem ba_size (l : List UInt8) : (⟨l.toArray⟩ : ByteArray).size = l.length := by rw [Lib.size_eq, ba_list]
theorem ba_empty (l : List UInt8) : (⟨l.toArray⟩ : ByteArray).toList.isEmpty = decide (l = []) := by
  rw [ByteArray.toList_eq, ba_list]; cases l <;> simp

theorem trimS_len (l cs : List UInt8) : (Lib.trimS l cs).length ≤ l.length := by
  unfold Lib.trimS Lib.trimLeftS Lib.trimRightS
  have h1 := List.dropWhile_sublist (l := (l.reverse.dropWhile (cs.contains ·)).reverse) (p := fun x => cs.contains x)
  have h2 := List.dropWhile_sublist (l := l.reverse) (p := fun x => cs.contains x)
  have h3 := h1.length_le
  have h4 := h2.length_le
  simp only [List.length_reverse] at h3 h4
  omega

set_option maxHeartbeats 8000000 in
theorem parse_any (s : ByteArray) (w : World) (hL : MX w) (hs : s.size ≤ 1000000)
    (ha : (Lib.cut s.data.toList [61]).1.length = 5 → ∀ (j : Nat) b, (Lib.cut s.data.toList [61]).1[j]? = some b → b.toNat < 128) :
    Calls Tryd.prog 12 #[.string s] w fun e w' => ParsePost s.data.toList w w' e := by
  have hcut := fun W (h : MX W) => cutx_any s ⟨#[61]⟩ W h (by omega)
  have hcl := cut_len (c := 61) s.data.toList
  have hsz : s.data.toList.length ≤ 1000000 := by rw [← Lib.size_eq]; exact hs
  simp only at hcut
  obtain ⟨D, HD⟩ : ∃ D, Hid (parseD s.data.toList = D) := ⟨_, rfl⟩
  have HE : Hid (D = if (Lib.cut s.data.toList [61]).2.2 = true ∧ (Lib.cut s.data.toList [61]).1.length = 5 ∧ Lib.equalFold (Lib.cut s.data.toList [61]).1 bytesL = true then endP (restP true (Lib.cut s.data.toList [61]).2.1 []) else ([], 2)) := by
    unfold Hid; rw [← HD.out]; rfl
  unfold ParsePost
  rw [HD.out]
  clear HD
  generalize (Lib.cut s.data.toList [61]).2.2 = f at *
  generalize (Lib.cut s.data.toList [61]).1 = u at *
  generalize (Lib.cut s.data.toList [61]).2.1 = r at *
  cases f with
  | false =>
    have HF : Hid (D = ([], 2)) := by unfold Hid; rw [HE.out, if_neg (by simp)]
    rw [HF.out]
    go_enter Tryd.func12, Tryd.ntmps12
    go_wp2_with (go_at_call 37; with_reducible refine (hcut _ hL).mono ?_; rintro e w1 ⟨rfl, hb1⟩)
    exact bodyPost_ret (v := .tuple #[.slice none 0 0, .int .i64 2]) (by simp [results, Tryd.results12, go_sem]) rfl ⟨_, rfl, IsSp.nil _, hb1⟩
  | true =>
    by_cases h5 : u.length = 5
    · have hus : (⟨u.toArray⟩ : ByteArray).size = 5 := by rw [ba_size]; exact h5
      have hfold := fun W => Tryd.strings_EqualFold ⟨u.toArray⟩ ⟨#[98, 121, 116, 101, 115]⟩ W (by rw [hus]; decide) (ha h5) (fun j b h => by
        exact ascii_of_all (l := [98, 121, 116, 101, 115]) (by decide) j b h)
      simp only at hfold
      generalize (⟨u.toArray⟩ : ByteArray) = ub at *
      cases hq : Lib.equalFold u bytesL with
      | false =>
        have HF : Hid (D = ([], 2)) := by unfold Hid; rw [HE.out, if_neg (by simp [hq])]
        rw [HF.out]
        rw [hq] at hfold
        go_enter Tryd.func12, Tryd.ntmps12
        go_wp2_with (first
          | (go_at_call 37; with_reducible refine (hcut _ hL).mono ?_; rintro e w1 ⟨rfl, hb1⟩)
          | (go_at_call 38; with_reducible refine (hfold _).mono ?_; rintro e w2 ⟨rfl, rfl⟩))
        exact bodyPost_ret (v := .tuple #[.slice none 0 0, .int .i64 2]) (by simp [results, Tryd.results12, go_sem]) rfl ⟨_, rfl, IsSp.nil _, hb1⟩
      | true =>
        have HF : Hid (D = endP (restP true r [])) := by unfold Hid; rw [HE.out, if_pos ⟨rfl, h5, hq⟩]
        rw [hq] at hfold
        obtain ⟨R0, HR⟩ : ∃ R, Hid (restP true r [] = R) := ⟨_, rfl⟩
        have hr0 : r.length ≤ 1000000 := by omega
        have hrb : (⟨r.toArray⟩ : ByteArray).size ≤ 1000000 := by rw [ba_size]; exact hr0
        have HRB : Hid (restP true (⟨r.toArray⟩ : ByteArray).data.toList [] = R0) := by unfold Hid; rw [ba_list]; exact HR.out
        generalize (⟨r.toArray⟩ : ByteArray) = rb at *
        clear HE hcl ha hr0
        go_enter Tryd.func12, Tryd.ntmps12
        go_wp2_with (first
          | (go_at_call 37; with_reducible refine (hcut _ hL).mono ?_; rintro e w1 ⟨rfl, hb1⟩)
          | (go_at_call 38; with_reducible refine (hfold _).mono ?_; rintro e w2 ⟨rfl, rfl⟩))
        clear hcut hfold
        go_loopw [5, 6, 7] (fun vi vm vl wr => ∃ (ib : ByteArray) (f : Bool) (acc : List Sp), vi = .string ib ∧ vm = .bool f ∧ OwnR wr w.heap.size vl acc ∧ ib.size ≤ 1000000 ∧ acc.length ≤ 65 ∧ Hid (restP f ib.data.toList acc = R0) ∧ Below w.heap.size w wr) (fun vi vm _ _ => msr vi vm)
        case atStart => exact ⟨rb, true, [], rfl, rfl, World.ownsRow_nil _ _ _ _, hrb, by simp, HRB, hb1⟩
        case round =>
          obtain ⟨ib, f, acc, rfl, rfl, hown, hib, hal, HG, hbel⟩ := hrel
          cases f with
          | false =>
            have HX : Hid (D = endP (some acc)) := by unfold Hid; rw [HF.out, HR.out, ← HG.out]; rfl
            clear HG HRB
            obtain ⟨A2, n2, c2, rfl, HN2, hc2, hs2⟩ := (IsSp.ownR hown).split
            have HS2 := Lib.hid hs2
            clear hs2 hown
            have hn2 : n2 ≤ 65 := by have := HN2.out; omega
            by_cases h0 : n2 = 0
            · subst h0
              have HY : Hid (D = ([], 2)) := by unfold Hid; rw [HX.out]; simp only [endP]; rw [if_pos HN2.out]
              go_wp2
              exact bodyPost_ret (v := .tuple #[.slice none 0 0, .int .i64 2]) (by simp [results, Tryd.results12, go_sem]) rfl ⟨.slice none 0 0, by rw [HY.out], by rw [HY.out]; exact IsSp.nil _, hbel⟩
            · by_cases h64 : 64 < n2
              · have HY : Hid (D = ([], 4)) := by unfold Hid; rw [HX.out]; simp only [endP]; rw [if_neg (by have := HN2.out; omega), if_pos (by have := HN2.out; omega)]
                go_wp2
                exact bodyPost_ret (v := .tuple #[.slice none 0 0, .int .i64 4]) (by simp [results, Tryd.results12, go_sem]) rfl ⟨.slice none 0 0, by rw [HY.out], by rw [HY.out]; exact IsSp.nil _, hbel⟩
              · have HY : Hid (D = (acc, 0)) := by unfold Hid; rw [HX.out]; simp only [endP]; rw [if_neg (by have := HN2.out; omega), if_neg (by have := HN2.out; omega)]
                go_wp2
                exact bodyPost_ret (v := .tuple #[.slice A2 n2 c2, .int .i64 0]) (by simp [results, Tryd.results12, go_sem]) rfl ⟨.slice A2 n2 c2, by rw [HY.out], by rw [HY.out]; exact IsSp.mk' HN2.out hc2 HS2.out, hbel⟩
          | true =>
            have hil : ib.data.toList.length ≤ 1000000 := by rw [← Lib.size_eq]; exact hib
            have hcu := fun W (h : MX W) => cutx_any ib ⟨#[44]⟩ W h (by omega)
            simp only at hcu
            have hcl := cut_len (c := 44) ib.data.toList
            rw [← Lib.size_eq] at hcl
            have HST := Lib.hid (restP_step ib.data.toList acc)
            generalize (Lib.cut ib.data.toList [44]).2.2 = f2 at *
            generalize (Lib.cut ib.data.toList [44]).1 = a2 at *
            generalize (Lib.cut ib.data.toList [44]).2.1 = r2 at *
            have hrs : (⟨r2.toArray⟩ : ByteArray).size ≤ 1000000 ∧ (f2 = true → (⟨r2.toArray⟩ : ByteArray).size < ib.size) := by rw [ba_size]; exact ⟨by omega, hcl.2.2⟩
            have HRL : Hid ((⟨r2.toArray⟩ : ByteArray).data.toList = r2) := rfl
            have hme : ∀ B : ByteArray, B = ⟨r2.toArray⟩ → msr (.string B) (.bool f2) < ib.size + 1 := by
              intro B hB
              subst hB
              cases f2 with
              | false => exact Nat.succ_pos _
              | true => have := hrs.2 rfl; show _ + 1 < _; omega
            have HME := Lib.hid hme
            generalize hB2 : (⟨r2.toArray⟩ : ByteArray) = rb2 at *
            have htr := fun W => trimx_any ⟨a2.toArray⟩ W (by rw [ba_size]; omega)
            simp only at htr
            have htl := trimS_len a2 [32, 9]
            have hem : (⟨(Lib.trimS a2 [32, 9]).toArray⟩ : ByteArray).toList.isEmpty = decide (Lib.trimS a2 [32, 9] = []) := ba_empty _
            have hts : (⟨(Lib.trimS a2 [32, 9]).toArray⟩ : ByteArray).size ≤ 1000000 := by rw [ba_size]; omega
            have hrg := fun W (h : MX W) => range_any ⟨(Lib.trimS a2 [32, 9]).toArray⟩ W h (by omega)
            simp only at hrg
            have HSP : Hid (stepP a2 acc = if Lib.trimS a2 [32, 9] = [] then some acc else if (rangeD (Lib.trimS a2 [32, 9])).2 = true then some (if acc.length ≤ 64 then acc ++ [(rangeD (Lib.trimS a2 [32, 9])).1] else acc) else Option.none) := rfl
            generalize (⟨(Lib.trimS a2 [32, 9]).toArray⟩ : ByteArray) = tb at *
            generalize rangeD (Lib.trimS a2 [32, 9]) = rg at *
            obtain ⟨⟨x, y⟩, ok⟩ := rg
            simp only at hrg HSP
            have hwz := hbel.size
            by_cases hte : Lib.trimS a2 [32, 9] = []
            · have hem' : tb.toList.isEmpty = true := by rw [hem]; simpa using hte
              have HK : Hid (restP f2 rb2.data.toList acc = R0) := by
                unfold Hid; rw [HRL.out, ← HG.out, HST.out, HSP.out, if_pos hte]; rfl
              clear HG HST HSP hrg hem HRL
              go_wp2_with (first
                | (go_at_call 37; with_reducible refine (hcu _ (hL.below (by go_grown))).mono ?_; rintro e w2 ⟨rfl, hb2⟩; have B2 := hbel.trans (hb2.mono hwz); have own2 := Below.ownR hown hb2; clear hb2 hown)
                | (go_at_call 39; with_reducible refine (htr _).mono ?_; rintro e w3 ⟨rfl, hb3⟩; have B3 := B2.trans (hb3.mono B2.size); have own3 := Below.ownR own2 hb3; clear hb3 own2))
              go_roundw
              case rel => exact ⟨rb2, f2, acc, rfl, rfl, own3, hrs.1, hal, HK, B3⟩
              case measure => exact HME.out _ rfl
            · have hem' : tb.toList.isEmpty = false := by rw [hem]; simpa using hte
              obtain ⟨A2, n2, c2, rfl, HN2, hc2, -⟩ := (IsSp.ownR hown).split
              have hn2 : n2 ≤ 65 := by have := HN2.out; omega
              cases ok with
              | false =>
                have HY : Hid (D = ([], 2)) := by
                  unfold Hid; rw [HF.out, HR.out, ← HG.out, HST.out, HSP.out, if_neg hte]; rfl
                clear HG HST HSP hem HRL HRB
                go_wp2_with (first
                  | (go_at_call 37; with_reducible refine (hcu _ (hL.below (by go_grown))).mono ?_; rintro e w2 ⟨rfl, hb2⟩; have B2 := hbel.trans (hb2.mono hwz); clear hb2 hown)
                  | (go_at_call 39; with_reducible refine (htr _).mono ?_; rintro e w3 ⟨rfl, hb3⟩; have B3 := B2.trans (hb3.mono B2.size); clear hb3)
                  | (go_at_call 40; with_reducible refine (hrg _ (hL.below B3)).mono ?_; rintro e w4 ⟨rfl, hb4⟩; have B4 := B3.trans (hb4.mono B3.size); clear hb4))
                exact bodyPost_ret (v := .tuple #[.slice none 0 0, .int .i64 2]) (by simp [results, Tryd.results12, go_sem]) rfl ⟨.slice none 0 0, by rw [HY.out], by rw [HY.out]; exact IsSp.nil _, B4.alloc B4.size _⟩
              | true =>
                by_cases h64 : n2 ≤ 64
                · have HK : Hid (restP f2 rb2.data.toList (acc ++ [(x, y)]) = R0) := by
                    unfold Hid; rw [HRL.out, ← HG.out, HST.out, HSP.out, if_neg hte, if_pos rfl, if_pos (by have := HN2.out; omega)]; rfl
                  clear HG HST HSP hem HRL
                  go_wp2_with (first
                    | (go_at_call 37; with_reducible refine (hcu _ (hL.below (by go_grown))).mono ?_; rintro e w2 ⟨rfl, hb2⟩; have B2 := hbel.trans (hb2.mono hwz); have own2 := Below.ownR hown hb2; clear hb2 hown)
                    | (go_at_call 39; with_reducible refine (htr _).mono ?_; rintro e w3 ⟨rfl, hb3⟩; have B3 := B2.trans (hb3.mono B2.size); have own3 := Below.ownR own2 hb3; clear hb3 own2)
                    | (go_at_call 40; with_reducible refine (hrg _ (hL.below B3)).mono ?_; rintro e w4 ⟨rfl, hb4⟩; have B4 := B3.trans (hb4.mono B3.size); have own4 := Below.ownR own3 hb4; have B5 : Below w.heap.size w (w4.alloc (.cells #[.int .i64 x, .int .i64 y] 32)) := B4.alloc B4.size _; have own5 : OwnR (w4.alloc (.cells #[.int .i64 x, .int .i64 y] 32)) w.heap.size _ acc := own4.alloc _; clear hb4 own3; have tok : True := trivial)
                    | (at_builtin; have _t := tok; refine app_spec_at (w4.alloc (.cells #[.int .i64 x, .int .i64 y] 32)) (w4.heap.size + 1) (by simp) (by rfl) _ _ (by rfl) w.heap.size _ acc x y (by rfl) own5 (by rfl) (by omega) B5.size ?_; intro v6 w6 hown6 hgrow; have B6 : Below w.heap.size w w6 := below_app B5 B5.size own5 hgrow; clear hgrow own5 B5 tok))
                  go_roundw
                  case rel => exact ⟨rb2, f2, acc ++ [(x, y)], rfl, rfl, hown6, hrs.1, by have := HN2.out; simp; omega, HK, B6⟩
                  case measure => exact HME.out _ rfl
                · have HK : Hid (restP f2 rb2.data.toList acc = R0) := by
                    unfold Hid; rw [HRL.out, ← HG.out, HST.out, HSP.out, if_neg hte, if_pos rfl, if_neg (by have := HN2.out; omega)]; rfl
                  clear HG HST HSP hem HRL
                  go_wp2_with (first
                    | (go_at_call 37; with_reducible refine (hcu _ (hL.below (by go_grown))).mono ?_; rintro e w2 ⟨rfl, hb2⟩; have B2 := hbel.trans (hb2.mono hwz); have own2 := Below.ownR hown hb2; clear hb2 hown)
                    | (go_at_call 39; with_reducible refine (htr _).mono ?_; rintro e w3 ⟨rfl, hb3⟩; have B3 := B2.trans (hb3.mono B2.size); have own3 := Below.ownR own2 hb3; clear hb3 own2)
                    | (go_at_call 40; with_reducible refine (hrg _ (hL.below B3)).mono ?_; rintro e w4 ⟨rfl, hb4⟩; have B4 := B3.trans (hb4.mono B3.size); have own4 := Below.ownR own3 hb4; have B5 : Below w.heap.size w (w4.alloc (.cells #[.int .i64 x, .int .i64 y] 32)) := B4.alloc B4.size _; have own5 : OwnR (w4.alloc (.cells #[.int .i64 x, .int .i64 y] 32)) w.heap.size _ acc := own4.alloc _; clear hb4 own3))
                  go_roundw
                  case rel => exact ⟨rb2, f2, acc, rfl, rfl, own5, hrs.1, hal, HK, B5⟩
                  case measure => exact HME.out _ rfl
    · have HF : Hid (D = ([], 2)) := by unfold Hid; rw [HE.out, if_neg (by simp [h5])]
      rw [HF.out]
      have hus : (⟨u.toArray⟩ : ByteArray).size ≠ 5 := by rw [ba_size]; exact h5
      have hus2 : (((⟨u.toArray⟩ : ByteArray).size : Int) == 5) = false := by rw [beq_eq_false_iff_ne]; omega
      have hus3 : (((⟨u.toArray⟩ : ByteArray).size : Int) != 5) = true := by rw [bne_iff_ne]; omega
      generalize (⟨u.toArray⟩ : ByteArray) = ub at *
      go_enter Tryd.func12, Tryd.ntmps12
      go_wp2_with (go_at_call 37; with_reducible refine (hcut _ hL).mono ?_; rintro e w1 ⟨rfl, hb1⟩)
      exact bodyPost_ret (v := .tuple #[.slice none 0 0, .int .i64 2]) (by simp [results, Tryd.results12, go_sem]) rfl ⟨_, rfl, IsSp.nil _, hb1⟩
end Go.Proofs.YtdmkfleiipfbgaaDoor
