/-
  The program's List of every text.
-/
import Derived.Test.YtomcoacndppkcaaGreatDoorTL
namespace Go.Proofs.YtomcoacndppkcaaGreatDoor.T
open Go Go.RowKit

def msr (vi vm : Value) : Nat := match vm, vi with
  | .bool true, .string b => b.size + 1
  | _, _ => 0
def ListPost (s : List UInt8) (w w' : World) (e : Ending) : Prop :=
  ∃ v, e = .returned (.tuple #[v, .bool (listD s).2.1, .int .i64 (listD s).2.2]) ∧ IsTg w' v (listD s).1 ∧ Below w.heap.size w w'

set_option maxHeartbeats 8000000 in
theorem plist_any (s : ByteArray) (w : World) (hs : s.size ≤ 1000000) :
    Calls Tryz.prog 48 #[.string s] w fun e w' => ListPost s.data.toList w w' e := by
  have htr0 := fun W => trimx_any s W (by unfold szM; omega)
  have hem0 : ((⟨(Lib.trimS s.data.toList [32, 9]).toArray⟩ : ByteArray).toList == [42]) = decide (trimB s.data.toList = [42]) := by
    rw [ByteArray.toList_eq, Bool.eq_iff_iff]; simp
  obtain ⟨D, HD⟩ : ∃ D, Hid (listD s.data.toList = D) := ⟨listD s.data.toList, rfl⟩
  have HE : Hid (D = if trimB s.data.toList = [42] then ([], true, 0) else ((endP (restP true s.data.toList [])).1, false, (endP (restP true s.data.toList [])).2)) := by
    unfold Hid; rw [← HD.out]; rfl
  unfold ListPost
  rw [HD.out]
  clear HD
  by_cases hst : trimB s.data.toList = [42]
  · have HF : Hid (D = ([], true, 0)) := by unfold Hid; rw [HE.out, if_pos hst]
    rw [decide_eq_true hst] at hem0
    rw [HF.out]
    clear HE hst
    generalize (⟨(Lib.trimS s.data.toList [32, 9]).toArray⟩ : ByteArray) = tb0 at *
    go_enter Tryz.func48, Tryz.ntmps48
    go_wp2_with (go_at_call 70; with_reducible refine (htr0 _).mono ?_; rintro e w1 ⟨rfl, hb1⟩)
    exact bodyPost_ret (v := .tuple #[.slice none 0 0, .bool true, .int .i64 0]) (by simp [results, Tryz.results48, go_sem]) rfl ⟨_, rfl, IsTg.nil _, hb1⟩
  · have HF : Hid (D = ((endP (restP true s.data.toList [])).1, false, (endP (restP true s.data.toList [])).2)) := by unfold Hid; rw [HE.out, if_neg hst]
    rw [decide_eq_false hst] at hem0
    clear HE hst
    generalize (⟨(Lib.trimS s.data.toList [32, 9]).toArray⟩ : ByteArray) = tb0 at *
    obtain ⟨R0, HR⟩ : ∃ R, Hid (restP true s.data.toList [] = R) := ⟨restP true s.data.toList [], rfl⟩
    rw [HR.out] at HF
    go_enter Tryz.func48, Tryz.ntmps48
    go_wp2_with (go_at_call 70; with_reducible refine (htr0 _).mono ?_; rintro e w1 ⟨rfl, hb1⟩)
    clear htr0 hem0
    go_loopw [0, 2, 5] (fun vi vl vm wr => ∃ (ib : ByteArray) (f : Bool) (acc : List Tg), vi = .string ib ∧ vm = .bool f ∧ OwnT wr w.heap.size vl acc ∧ ib.size ≤ 1000000 ∧ acc.length ≤ 65 ∧ Hid (restP f ib.data.toList acc = R0) ∧ Below w.heap.size w wr) (fun vi _ vm _ => msr vi vm)
    case atStart => exact ⟨s, true, [], rfl, rfl, World.ownsRow_nil _ _ _ _, hs, by simp, HR, hb1⟩
    case round =>
      clear hb1 HR
      obtain ⟨ib, f, acc, rfl, rfl, hown, hib, hal, HG, hbel⟩ := hrel
      cases f with
      | false =>
        have HX : Hid (D = ((endP (some acc)).1, false, (endP (some acc)).2)) := by unfold Hid; rw [HF.out, ← HG.out]; rfl
        clear HG
        obtain ⟨A2, n2, c2, rfl, HN2, hc2, hs2⟩ := (IsTg.own hown).split
        have HS2 := Lib.hid hs2
        clear hs2 hown
        have hn2 : n2 ≤ 65 := by have := HN2.out; omega
        by_cases h0 : n2 = 0
        · subst h0
          have HY : Hid (D = ([], false, 2)) := by unfold Hid; rw [HX.out]; simp only [endP]; rw [if_pos HN2.out]
          go_wp2_with fail
          exact bodyPost_ret (v := .tuple #[.slice none 0 0, .bool false, .int .i64 2]) (by simp [results, Tryz.results48, go_sem]) rfl ⟨.slice none 0 0, by rw [HY.out], by rw [HY.out]; exact IsTg.nil _, hbel⟩
        · by_cases h64 : 64 < n2
          · have HY : Hid (D = ([], false, 4)) := by unfold Hid; rw [HX.out]; simp only [endP]; rw [if_neg (by have := HN2.out; omega), if_pos (by have := HN2.out; omega)]
            go_wp2_with fail
            exact bodyPost_ret (v := .tuple #[.slice none 0 0, .bool false, .int .i64 4]) (by simp [results, Tryz.results48, go_sem]) rfl ⟨.slice none 0 0, by rw [HY.out], by rw [HY.out]; exact IsTg.nil _, hbel⟩
          · have HY : Hid (D = (acc, false, 0)) := by unfold Hid; rw [HX.out]; simp only [endP]; rw [if_neg (by have := HN2.out; omega), if_neg (by have := HN2.out; omega)]
            go_wp2_with fail
            exact bodyPost_ret (v := .tuple #[.slice A2 n2 c2, .bool false, .int .i64 0]) (by simp [results, Tryz.results48, go_sem]) rfl ⟨.slice A2 n2 c2, by rw [HY.out], by rw [HY.out]; exact IsTg.mk' HN2.out hc2 HS2.out, hbel⟩
      | true =>
        have hcu := fun W => cut_any ib W (by unfold szM; omega)
        unfold cutV at hcu
        have hcl := cutP_len false ib.data.toList
        rw [← Lib.size_eq] at hcl
        have HST := Lib.hid (restP_step ib.data.toList acc)
        generalize (cutP false ib.data.toList).2.2 = f2 at *
        generalize (cutP false ib.data.toList).1 = a2 at *
        generalize (cutP false ib.data.toList).2.1 = r2 at *
        have hrs : (⟨r2.toArray⟩ : ByteArray).size ≤ 1000000 ∧ (f2 = true → (⟨r2.toArray⟩ : ByteArray).size < ib.size) := by rw [ba_size]; exact ⟨by omega, hcl.2.2⟩
        have HRL : Hid ((⟨r2.toArray⟩ : ByteArray).data.toList = r2) := rfl
        have hme : ∀ B : ByteArray, B = ⟨r2.toArray⟩ → msr (.string B) (.bool f2) < ib.size + 1 := by
          intro B hB
          subst hB
          cases f2 with
          | false => exact Nat.succ_pos _
          | true => have := hrs.2 rfl; show _ + 1 < _; omega
        have HME := Lib.hid hme
        generalize hB2 : (⟨r2.toArray⟩ : ByteArray) = rb2 at *
        have htr := fun W => trimx_any ⟨a2.toArray⟩ W (by rw [ba_size]; unfold szM; omega)
        simp only at htr
        have htl := trimS_len a2 [32, 9]
        have hem : (⟨(Lib.trimS a2 [32, 9]).toArray⟩ : ByteArray).toList.isEmpty = decide (trimB a2 = []) := ba_empty _
        have hts : (⟨(Lib.trimS a2 [32, 9]).toArray⟩ : ByteArray).size ≤ 1000000 := by rw [ba_size]; omega
        have hrg := fun W => read_any ⟨(Lib.trimS a2 [32, 9]).toArray⟩ W (by unfold szM; omega)
        simp only at hrg
        have HSP : Hid (stepT a2 acc = if trimB a2 = [] then some acc else if (readL (Lib.trimS a2 [32, 9])).2 = true then some (if acc.length ≤ 64 then acc ++ [(readL (Lib.trimS a2 [32, 9])).1] else acc) else Option.none) := rfl
        generalize (⟨(Lib.trimS a2 [32, 9]).toArray⟩ : ByteArray) = tb at *
        generalize readL (Lib.trimS a2 [32, 9]) = rg at *
        obtain ⟨⟨x, y⟩, ok⟩ := rg
        simp only at hrg HSP
        have hwz := hbel.size
        by_cases hte : trimB a2 = []
        · have hem' : tb.toList.isEmpty = true := by rw [hem]; simpa using hte
          have HK : Hid (restP f2 rb2.data.toList acc = R0) := by
            unfold Hid; rw [HRL.out, ← HG.out, HST.out, HSP.out, if_pos hte]; rfl
          clear HG HST HSP hrg hem HRL
          go_wp2_with (first
            | (go_at_call 71; with_reducible refine (hcu _).mono ?_; rintro e w2 ⟨rfl, hb2⟩; have B2 := hbel.trans (hb2.mono hwz); have own2 := Below.ownT hown hb2; clear hb2 hown)
            | (go_at_call 70; with_reducible refine (htr _).mono ?_; rintro e w3 ⟨rfl, hb3⟩; have B3 := B2.trans (hb3.mono B2.size); have own3 := Below.ownT own2 hb3; clear hb3 own2))
          go_roundw
          case rel => exact ⟨rb2, f2, acc, rfl, rfl, own3, hrs.1, hal, HK, B3⟩
          case measure => exact HME.out _ rfl
        · have hem' : tb.toList.isEmpty = false := by rw [hem]; simpa using hte
          obtain ⟨A2, n2, c2, rfl, HN2, hc2, -⟩ := (IsTg.own hown).split
          have hn2 : n2 ≤ 65 := by have := HN2.out; omega
          cases ok with
          | false =>
            have HY : Hid (D = ([], false, 2)) := by
              unfold Hid; rw [HF.out, ← HG.out, HST.out, HSP.out, if_neg hte]; rfl
            clear HG HST HSP hem HRL
            go_wp2_with (first
              | (go_at_call 71; with_reducible refine (hcu _).mono ?_; rintro e w2 ⟨rfl, hb2⟩; have B2 := hbel.trans (hb2.mono hwz); clear hb2 hown)
              | (go_at_call 70; with_reducible refine (htr _).mono ?_; rintro e w3 ⟨rfl, hb3⟩; have B3 := B2.trans (hb3.mono B2.size); clear hb3)
              | (go_at_call 72; with_reducible refine (hrg _).mono ?_; rintro e w4 ⟨rfl, hb4⟩; have B4 := B3.trans (hb4.mono B3.size); clear hb4))
            exact bodyPost_ret (v := .tuple #[.slice none 0 0, .bool false, .int .i64 2]) (by simp [results, Tryz.results48, go_sem]) rfl ⟨.slice none 0 0, by rw [HY.out], by rw [HY.out]; exact IsTg.nil _, B4.alloc B4.size _⟩
          | true =>
            by_cases h64 : n2 ≤ 64
            · have HK : Hid (restP f2 rb2.data.toList (acc ++ [(x, y)]) = R0) := by
                unfold Hid; rw [HRL.out, ← HG.out, HST.out, HSP.out, if_neg hte, if_pos rfl, if_pos (by have := HN2.out; omega)]; rfl
              clear HG HST HSP hem HRL
              go_wp2_with (first
                | (go_at_call 71; with_reducible refine (hcu _).mono ?_; rintro e w2 ⟨rfl, hb2⟩; have B2 := hbel.trans (hb2.mono hwz); have own2 := Below.ownT hown hb2; clear hb2 hown)
                | (go_at_call 70; with_reducible refine (htr _).mono ?_; rintro e w3 ⟨rfl, hb3⟩; have B3 := B2.trans (hb3.mono B2.size); have own3 := Below.ownT own2 hb3; clear hb3 own2)
                | (go_at_call 72; with_reducible refine (hrg _).mono ?_; rintro e w4 ⟨rfl, hb4⟩; have B4 := B3.trans (hb4.mono B3.size); have own4 := Below.ownT own3 hb4; have B5 : Below w.heap.size w (w4.alloc (.cells #[.string x, .bool y] 27)) := B4.alloc B4.size _; have own5 : OwnT (w4.alloc (.cells #[.string x, .bool y] 27)) w.heap.size _ acc := own4.alloc _; clear hb4 own3; have tok : True := trivial)
                | (at_builtin; have _t := tok; refine app_tag_at (w4.alloc (.cells #[.string x, .bool y] 27)) (w4.heap.size + 1) (by simp) (by rfl) _ _ (by rfl) w.heap.size _ acc x y (by rfl) own5 (by rfl) (by omega) B5.size ?_; intro v6 w6 hown6 hgrow; have B6 : Below w.heap.size w w6 := below_app B5 B5.size own5 hgrow; clear hgrow own5 B5 tok))
              go_roundw
              case rel => exact ⟨rb2, f2, acc ++ [(x, y)], rfl, rfl, hown6, hrs.1, by have := HN2.out; simp; omega, HK, B6⟩
              case measure => exact HME.out _ rfl
            · have HK : Hid (restP f2 rb2.data.toList acc = R0) := by
                unfold Hid; rw [HRL.out, ← HG.out, HST.out, HSP.out, if_neg hte, if_pos rfl, if_neg (by have := HN2.out; omega)]; rfl
              clear HG HST HSP hem HRL
              go_wp2_with (first
                | (go_at_call 71; with_reducible refine (hcu _).mono ?_; rintro e w2 ⟨rfl, hb2⟩; have B2 := hbel.trans (hb2.mono hwz); have own2 := Below.ownT hown hb2; clear hb2 hown)
                | (go_at_call 70; with_reducible refine (htr _).mono ?_; rintro e w3 ⟨rfl, hb3⟩; have B3 := B2.trans (hb3.mono B2.size); have own3 := Below.ownT own2 hb3; clear hb3 own2)
                | (go_at_call 72; with_reducible refine (hrg _).mono ?_; rintro e w4 ⟨rfl, hb4⟩; have B4 := B3.trans (hb4.mono B3.size); have own4 := Below.ownT own3 hb4; have B5 : Below w.heap.size w (w4.alloc (.cells #[.string x, .bool y] 27)) := B4.alloc B4.size _; have own5 : OwnT (w4.alloc (.cells #[.string x, .bool y] 27)) w.heap.size _ acc := own4.alloc _; clear hb4 own3))
              go_roundw
              case rel => exact ⟨rb2, f2, acc, rfl, rfl, own5, hrs.1, hal, HK, B5⟩
              case measure => exact HME.out _ rfl
theorem listD_size (s : List UInt8) : (listD s).1.length ≤ 1000000 := by have := listD_len s; omega
end Go.Proofs.YtomcoacndppkcaaGreatDoor.T
