/-
  The reference's List of every text, walked.
-/
import Derived.Test.YtomcoacndppkcaaGreatDoorTV
namespace Go.Proofs.YtomcoacndppkcaaGreatDoor.T
open Go Go.RowKit

theorem errD_t : errD true = 0 := rfl
theorem errD_f : errD false = 2 := rfl
/-- a row of texts as a slice -/
theorem OwnW.form {w : World} {base : Nat} {v : Value} {l : List ByteArray} (h : OwnW w base v l) : ∃ (A : Option Addr) (n c : Nat), v = .slice A n c ∧ Hid (l.length = n) := by
  rcases h.2 with ⟨e, h0⟩ | ⟨g', cap', cur, e, _⟩
  · exact ⟨none, 0, 0, e, h0⟩
  · exact ⟨_, _, _, e, rfl⟩
/-- a row of texts, cell by cell -/
theorem OwnW.at_ {w W : World} {base : Nat} {A : Option Addr} {n c : Nat} {l : List ByteArray} (h : OwnW w base (.slice A n c) l) (hb : Ext w W) {k : Nat} (hk : k < l.length) :
    ∃ g, A = some ⟨g, 0, none⟩ ∧ g < W.heap.size ∧ W.cell? ⟨g, k, none⟩ = some (.string l[k]) := by
  obtain ⟨g, cap, e, _, hlt⟩ := World.ownsRow.form h (by omega)
  injection e with e1 e2 e3
  subst e1
  refine ⟨g, rfl, Nat.lt_of_lt_of_le hlt hb.size, ?_⟩
  rw [hb.cell (p := ⟨g, k, none⟩) hlt]
  have h2 : OwnW w base (.slice (some ⟨g, 0, none⟩) l.length cap) l := by rw [← e2]; subst e3; exact e2 ▸ h
  rw [World.ownsRow.cellAt h2 k (by omega)]
  simp [hk]

set_option maxHeartbeats 16000000 in
set_option maxRecDepth 10000 in
theorem rlist_any (s : ByteArray) (w : World) (hs : s.size ≤ 100000) :
    Calls Tryz.prog 54 #[.string s] w fun e w' => ListPost s.data.toList w w' e := by
  have htr0 := fun W => rtrim_any s W (by omega)
  have hem0 : ((⟨(Lib.trimS s.data.toList [32, 9]).toArray⟩ : ByteArray).toList == [42]) = decide (trimB s.data.toList = [42]) := by
    rw [ByteArray.toList_eq, Bool.eq_iff_iff]; simp
  obtain ⟨D, HD⟩ : ∃ D, Hid (listD s.data.toList = D) := ⟨listD s.data.toList, rfl⟩
  have HE : Hid (D = if trimB s.data.toList = [42] then ([], true, 0) else ((endP (restP true s.data.toList [])).1, false, (endP (restP true s.data.toList [])).2)) := by
    unfold Hid; rw [← HD.out]; rfl
  unfold ListPost
  rw [HD.out]
  clear HD
  by_cases hst : trimB s.data.toList = [42]
  · have HF : Hid (D = ([], true, 0)) := by unfold Hid; rw [HE.out, if_pos hst]
    rw [decide_eq_true hst] at hem0
    rw [HF.out]
    clear HE hst
    generalize (⟨(Lib.trimS s.data.toList [32, 9]).toArray⟩ : ByteArray) = tb0 at *
    go_enter Tryz.func54, Tryz.ntmps54
    go_wp2_with (go_at_call 57; with_reducible refine (htr0 _).mono ?_; rintro e w1 ⟨rfl, rfl⟩)
    exact bodyPost_ret (v := .tuple #[.slice none 0 0, .bool true, .int .i64 0]) (by simp [results, Tryz.results54, go_sem]) rfl ⟨_, rfl, IsTg.nil _, Below.refl _ _⟩
  · have HF : Hid (D = ((endP (goQ (parts false s.data.toList) [])).1, false, (endP (goQ (parts false s.data.toList) [])).2)) := by unfold Hid; rw [HE.out, if_neg hst, endQ]
    rw [decide_eq_false hst] at hem0
    clear HE hst
    generalize (⟨(Lib.trimS s.data.toList [32, 9]).toArray⟩ : ByteArray) = tb0 at *
    go_enter Tryz.func54, Tryz.ntmps54
    go_wp2_with (go_at_call 57; with_reducible refine (htr0 _).mono ?_; rintro e w1 ⟨rfl, rfl⟩)
    clear htr0 hem0
    go_loopw [5, 6, 7, 8] (fun vp vn vq vi wr => ∃ (ps : List ByteArray) (nb : ByteArray) (q : Bool) (k : Nat), vn = .string nb ∧ vq = .bool q ∧ vi = .int .i64 k ∧ k ≤ s.size ∧ OwnW wr w.heap.size vp ps ∧ ps.length ≤ k ∧ nb.size ≤ k ∧ Hid (AtB s ps nb q k) ∧ Hid (∀ x ∈ ps, x.size ≤ 100000) ∧ Below w.heap.size w wr) (fun _ _ _ vi _ => s.size - (intOf vi).toNat)
    case atStart => exact ⟨[], ⟨#[]⟩, false, 0, rfl, rfl, rfl, Nat.zero_le _, OwnW.nil_at w _ (Nat.le_refl _), by simp, by decide, by unfold Hid AtB; rw [List.drop_zero]; exact (glue_nil _).symm, (by intro x hx; cases hx), (Below.refl _ _).alloc (Nat.le_refl _) _⟩
    case round =>
      obtain ⟨ps, nb, q, k, rfl, rfl, rfl, hk, hown, hpl, hnk, HG, HPZ, hbel⟩ := hrel
      have hwz := hbel.size
      by_cases hlt : k < s.size
      · have h34 : s[k] = 34 ↔ s[k].toNat = 34 := u8_iff s[k] 34 (by omega)
        have h44 : s[k] = 44 ↔ s[k].toNat = 44 := u8_iff s[k] 44 (by omega)
        have HM := Lib.hid (HG.out.more hlt)
        have d0 : (0 : Int) ≤ (k : Int) := by omega
        have d1 : (k : Int) ≤ (k : Int) + 1 := by omega
        have d3 : (0 : Int) ≤ (k : Int) + 1 := by omega
        have d4 : (k : Int) + 1 ≤ (s.size : Int) := by omega
        have d2 : IntKind.i64.wrap ((k : Int) + 1) = (k : Int) + 1 := IntWalk.i64_in _ (by omega)
        have d5 : ((k : Int) + 1).toNat = k + 1 := by omega
        have hes : (s.extract k (k + 1)).size = 1 := by rw [ByteArray.size_extract]; omega
        have hns : (nb ++ s.extract k (k + 1)).size ≤ k + 1 := by rw [ByteArray.size_append, hes]; omega
        have hn1 : ¬ 9223372036854775807 < nb.size + 1 := by omega
        have HNS := Lib.hid hns
        clear hns
        by_cases g1 : s[k].toNat = 34
        · have HK : Hid (AtB s ps (nb ++ s.extract k (k + 1)) (!q) (k + 1)) := by
            have h := HM.out (fun h => by have := h44.1 h.1; omega)
            unfold flipQ at h
            rwa [if_pos (h34.2 g1)] at h
          have b1 : ((s[k].toNat : Int) == 34) = true := beqi_t (by omega)
          have b2 : ((s[k].toNat : Int) == 44) = false := beqi_f (by omega)
          clear HM HG g1 h34 h44
          cases q <;>
          · go_wp2_with fail
            go_roundw
            case rel => exact ⟨ps, _, _, k + 1, rfl, rfl, by go_num, by omega, hown, by omega, HNS.out, HK, HPZ, hbel⟩
            case measure => simp [intOf]; omega
        · have b1 : ((s[k].toNat : Int) == 34) = false := beqi_f (by omega)
          by_cases g2 : s[k].toNat = 44
          · have b2 : ((s[k].toNat : Int) == 44) = true := beqi_t (by omega)
            cases q with
            | false =>
              have HK : Hid (AtB s (ps ++ [nb]) ⟨#[]⟩ false (k + 1)) := HG.out.cut hlt (h44.2 g2)
              have HPZ2 : Hid (∀ x ∈ ps ++ [nb], x.size ≤ 100000) := fun x hx => by
                rcases List.mem_append.1 hx with h | h
                · exact HPZ.out x h
                · simp at h; subst h; omega
              have B5 : Below w.heap.size w (wr.alloc (.cells #[.string nb] 9)) := hbel.alloc hwz _
              clear HM HG g1 g2 h34 h44 d0 d1 d3 d4 d2 d5
              go_wp2_with (at_builtin; refine app_str wr wr.heap.size rfl (by rfl) _ _ (by rfl) w.heap.size _ ps nb (by rfl) hown (by rfl) (by omega) hwz ?_; intro v6 w6 hown6 hgrow; have B6 : Below w.heap.size w w6 := below_app hbel hwz hown hgrow; clear hgrow)
              go_roundw
              case rel => exact ⟨ps ++ [nb], ⟨#[]⟩, false, k + 1, rfl, rfl, by go_num, by omega, hown6, by simp; omega, Nat.zero_le _, HK, HPZ2, B6⟩
              case measure => simp [intOf]; omega
            | true =>
              have HK : Hid (AtB s ps (nb ++ s.extract k (k + 1)) true (k + 1)) := by
                have h := HM.out (fun h => by have := h.2; cases this)
                unfold flipQ at h
                rwa [if_neg (fun e => g1 (h34.1 e))] at h
              clear HM HG g1 g2 h34 h44
              go_wp2_with fail
              go_roundw
              case rel => exact ⟨ps, _, _, k + 1, rfl, rfl, by go_num, by omega, hown, by omega, HNS.out, HK, HPZ, hbel⟩
              case measure => simp [intOf]; omega
          · have b2 : ((s[k].toNat : Int) == 44) = false := beqi_f (by omega)
            have HK : Hid (AtB s ps (nb ++ s.extract k (k + 1)) q (k + 1)) := by
              have h := HM.out (fun h => g2 (h44.1 h.1))
              unfold flipQ at h
              rwa [if_neg (fun e => g1 (h34.1 e))] at h
            clear HM HG g1 g2 h34 h44
            go_wp2_with fail
            go_roundw
            case rel => exact ⟨ps, _, _, k + 1, rfl, rfl, by go_num, by omega, hown, by omega, HNS.out, HK, HPZ, hbel⟩
            case measure => simp [intOf]; omega
      · obtain rfl : k = s.size := by omega
        have HPS : Hid (parts false s.data.toList = (ps ++ [nb]).map (·.data.toList)) := HG.out.fin
        obtain ⟨PS, hPS⟩ : ∃ PS, ps ++ [nb] = PS := ⟨_, rfl⟩
        have hPL : PS.length ≤ 100001 := by rw [← hPS]; simp; omega
        have HPZ2 : Hid (∀ x ∈ PS, x.size ≤ 100000) := fun x hx => by
          rw [← hPS] at hx
          rcases List.mem_append.1 hx with h | h
          · exact HPZ.out x h
          · simp at h; subst h; omega
        rw [hPS] at HPS
        rw [HPS.out] at HF
        have HPS' := Lib.hid hPS
        clear HG HPZ HPS hPS
        go_wp2_with (at_builtin; refine app_str wr wr.heap.size rfl (by rfl) _ _ (by rfl) w.heap.size _ ps nb (by rfl) hown (by rfl) (by omega) hwz ?_; intro v6 w6 hown6 hgrow; have B6 : Below w.heap.size w w6 := below_app hbel hwz hown hgrow; clear hgrow; rw [HPS'.out] at hown6; obtain ⟨A6, n6, c6, hv6, HN6⟩ := OwnW.form hown6; subst hv6)
        have HOW := Lib.hid hown6
        have hn6 : n6 ≤ 100001 := by have := HN6.out; omega
        have hz6 := B6.size
        clear hown6 hown hbel
        obtain ⟨R0, HR⟩ : ∃ R, Hid (goQ (PS.map (·.data.toList)) [] = R) := ⟨goQ (PS.map fun b : ByteArray => b.data.toList) [], rfl⟩
        rw [HR.out] at HF
        go_loopw [9, 10] (fun vo vi wr => ∃ (acc : List Tg) (k : Nat), vi = .int .i64 k ∧ k ≤ n6 ∧ OwnT wr w6.heap.size vo acc ∧ acc.length ≤ k ∧ Hid (goQ ((PS.drop k).map (·.data.toList)) acc = R0) ∧ Below w6.heap.size w6 wr) (fun _ vi _ => n6 - (intOf vi).toNat)
        case atStart => exact ⟨[], 0, rfl, Nat.zero_le _, OwnT.nil_at w6 _ (Nat.le_refl _), by simp, by rw [List.drop_zero]; exact HR, (Below.refl _ _).alloc (Nat.le_refl _) _⟩
        case round =>
          obtain ⟨acc, k, rfl, hk, hown, hal, HG, hbel⟩ := hrel
          have Bw := B6.trans (hbel.mono hz6)
          by_cases hlt : k < n6
          · have hkl : k < PS.length := by have := HN6.out; omega
            obtain ⟨g, rfl, hgz, c0⟩ := OwnW.at_ HOW.out hbel hkl
            have hxz := HPZ2.out PS[k] (List.getElem_mem hkl)
            have HST : Hid (goQ ((PS.drop k).map (·.data.toList)) acc = (stepQ PS[k].data.toList acc).bind (goQ ((PS.drop (k + 1)).map (·.data.toList)))) := by
              unfold Hid; rw [List.drop_eq_getElem_cons hkl]; rfl
            generalize PS[k] = xb at *
            have htr := fun W => rtrim_any xb W (by omega)
            have hpr := fun W => rparse_any xb W (by omega)
            unfold parseV at hpr
            have hem : (⟨(Lib.trimS xb.data.toList [32, 9]).toArray⟩ : ByteArray).toList.isEmpty = decide (trimB xb.data.toList = []) := ba_empty _
            have HSP : Hid (stepQ xb.data.toList acc = if trimB xb.data.toList = [] then some acc else if (readL (trimB xb.data.toList)).2 = true then some (acc ++ [(readL (trimB xb.data.toList)).1]) else Option.none) := rfl
            generalize (⟨(Lib.trimS xb.data.toList [32, 9]).toArray⟩ : ByteArray) = tb at *
            generalize readL (trimB xb.data.toList) = rg at *
            obtain ⟨⟨x, y⟩, ok⟩ := rg
            simp only at hpr HSP
            have hwz := hbel.size
            by_cases hte : trimB xb.data.toList = []
            · have hem' : tb.toList.isEmpty = true := by rw [hem]; simpa using hte
              have HK : Hid (goQ ((PS.drop (k + 1)).map (·.data.toList)) acc = R0) := by
                unfold Hid; rw [← HG.out, HST.out, HSP.out, if_pos hte]; rfl
              clear HG HST HSP hpr hem hte
              go_wp2_with (go_at_call 57; with_reducible refine (htr _).mono ?_; rintro e w3 ⟨rfl, rfl⟩)
              go_roundw
              case rel => exact ⟨acc, k + 1, by go_num, by omega, hown, by omega, HK, hbel⟩
              case measure => simp [intOf]; omega
            · have hem' : tb.toList.isEmpty = false := by rw [hem]; simpa using hte
              cases ok with
              | false =>
                have HY : Hid (D = ([], false, 2)) := by
                  unfold Hid; rw [HF.out, ← HG.out, HST.out, HSP.out, if_neg hte]; rfl
                rw [errD_f] at hpr
                clear HG HST HSP hem hte
                go_wp2_with (first
                  | (go_at_call 57; with_reducible refine (htr _).mono ?_; rintro e w3 ⟨rfl, rfl⟩)
                  | (go_at_call 25; with_reducible refine (hpr _).mono ?_; rintro e w4 ⟨rfl, hb4⟩; have B4 := Bw.trans (hb4.mono Bw.size); clear hb4))
                exact bodyPost_ret (v := .tuple #[.slice none 0 0, .bool false, .int .i64 2]) (by simp [results, Tryz.results54, go_sem]) rfl ⟨.slice none 0 0, by rw [HY.out], by rw [HY.out]; exact IsTg.nil _, B4.alloc B4.size _⟩
              | true =>
                have HK : Hid (goQ ((PS.drop (k + 1)).map (·.data.toList)) (acc ++ [(x, y)]) = R0) := by
                  unfold Hid; rw [← HG.out, HST.out, HSP.out, if_neg hte, if_pos rfl]; rfl
                rw [errD_t] at hpr
                clear HG HST HSP hem hte
                go_wp2_with (first
                  | (go_at_call 57; with_reducible refine (htr _).mono ?_; rintro e w3 ⟨rfl, rfl⟩)
                  | (go_at_call 25; with_reducible refine (hpr _).mono ?_; rintro e w4 ⟨rfl, hb4⟩; have B4 := hbel.trans (hb4.mono hwz); have own4 := Below.ownT hown hb4; have B5 : Below w6.heap.size w6 (w4.alloc (.cells #[.string x, .bool y] 27)) := B4.alloc B4.size _; have own5 : OwnT (w4.alloc (.cells #[.string x, .bool y] 27)) w6.heap.size _ acc := own4.alloc _; clear hb4 hown; have tok : True := trivial)
                  | (at_builtin; have _t := tok; refine app_tag_at (w4.alloc (.cells #[.string x, .bool y] 27)) (w4.heap.size + 1) (by simp) (by rfl) _ _ (by rfl) w6.heap.size _ acc x y (by rfl) own5 (by rfl) (by omega) B5.size ?_; intro v6 w8 hown8 hgrow; have B8 : Below w6.heap.size w6 w8 := below_app B5 B5.size own5 hgrow; clear hgrow own5 B5 tok))
                go_roundw
                case rel => exact ⟨acc ++ [(x, y)], k + 1, by go_num, by omega, hown8, by simp; omega, HK, B8⟩
                case measure => simp [intOf]; omega
          · obtain rfl : k = n6 := by omega
            have HX : Hid (D = ((endP (some acc)).1, false, (endP (some acc)).2)) := by
              unfold Hid; rw [HF.out, ← HG.out, List.drop_eq_nil_of_le (by have := HN6.out; omega)]; rfl
            clear HG
            obtain ⟨A2, n2, c2, rfl, HN2, hc2, hs2⟩ := (IsTg.own hown).split
            have HS2 := Lib.hid hs2
            clear hs2 hown
            have hn2 : n2 ≤ 100001 := by have := HN2.out; omega
            by_cases h0 : n2 = 0
            · subst h0
              have HY : Hid (D = ([], false, 2)) := by unfold Hid; rw [HX.out]; simp only [endP]; rw [if_pos HN2.out]
              go_wp2_with fail
              exact bodyPost_ret (v := .tuple #[.slice none 0 0, .bool false, .int .i64 2]) (by simp [results, Tryz.results54, go_sem]) rfl ⟨.slice none 0 0, by rw [HY.out], by rw [HY.out]; exact IsTg.nil _, Bw⟩
            · have hn0 : ((n2 : Int) == 0) = false := beqi_f (by omega)
              by_cases h64 : 64 < n2
              · have HY : Hid (D = ([], false, 4)) := by unfold Hid; rw [HX.out]; simp only [endP]; rw [if_neg (by have := HN2.out; omega), if_pos (by have := HN2.out; omega)]
                go_wp2_with fail
                exact bodyPost_ret (v := .tuple #[.slice none 0 0, .bool false, .int .i64 4]) (by simp [results, Tryz.results54, go_sem]) rfl ⟨.slice none 0 0, by rw [HY.out], by rw [HY.out]; exact IsTg.nil _, Bw⟩
              · have HY : Hid (D = (acc, false, 0)) := by unfold Hid; rw [HX.out]; simp only [endP]; rw [if_neg (by have := HN2.out; omega), if_neg (by have := HN2.out; omega)]
                go_wp2_with fail
                exact bodyPost_ret (v := .tuple #[.slice A2 n2 c2, .bool false, .int .i64 0]) (by simp [results, Tryz.results54, go_sem]) rfl ⟨.slice A2 n2 c2, by rw [HY.out], by rw [HY.out]; exact IsTg.mk' HN2.out hc2 HS2.out, Bw⟩
end Go.Proofs.YtomcoacndppkcaaGreatDoor.T
