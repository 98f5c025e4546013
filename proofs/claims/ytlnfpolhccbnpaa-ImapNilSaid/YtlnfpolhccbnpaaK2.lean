/-
  The reference's edges of acts.
-/
import Derived.Deep.Onto
import Derived.Test.YtlnfpolhccbnpaaK1
namespace Go.Proofs.Ytlnfpolhccbnpaa
open Go Go.RowKit

theorem OwnI.ext {w W : World} {base : Nat} {v : Value} {l : List Int} (h : OwnI w base v l) (e : Ext w W) : OwnI W base v l :=
  h.kept (w' := W) (row := Option.none) ⟨e.os, e.tape, e.output, e.size, fun i hi _ => e.block i hi⟩ (by cases v.ownBlock <;> simp)

theorem InAt.take {w : World} {B : Nat} {A : Option Addr} {l : List Int} (h : InAt w B A l) (k : Nat) : InAt w B A (l.take k) := fun hl => by
  have h0 : 0 < l.length := by rw [List.length_take] at hl; omega
  obtain ⟨b, o, e, hlt, hc⟩ := h h0
  exact ⟨b, o, e, hlt, fun j hj => by rw [List.getElem_take]; exact hc j (by rw [List.length_take] at hj; omega)⟩
theorem InAt.drop {w : World} {B b o : Nat} {l : List Int} (h : InAt w B (some ⟨b, o, none⟩) l) (k : Nat) : InAt w B (some ⟨b, o + k, none⟩) (l.drop k) := fun hl => by
  have h0 : k < l.length := by rw [List.length_drop] at hl; omega
  obtain ⟨b', o', e, hlt, hc⟩ := h (by omega)
  obtain ⟨rfl, rfl⟩ : b = b' ∧ o = o' := by injection e with e; injection e with e1 e2; exact ⟨e1, e2⟩
  refine ⟨b, o + k, rfl, hlt, fun j hj => ?_⟩
  rw [List.getElem_drop, Nat.add_assoc]
  exact hc (k + j) (by rw [List.length_drop] at hj; omega)
theorem in_one (w : World) (x : Int) : InAt (w.alloc (.cells #[.int .i64 x] 2)) (w.heap.size + 1) (some ⟨w.heap.size, 0, none⟩) [x] := fun _ => by
  refine ⟨w.heap.size, 0, rfl, by omega, fun j hj => ?_⟩
  obtain rfl : j = 0 := by simpa using hj
  simp
def insK (x y : Int) : Nat → List Int → List Int
  | 0, o => o
  | 1, o => insL x o
  | _, o => insL y (insL x o)

set_option maxHeartbeats 8000000 in
set_option maxRecDepth 100000 in
theorem ends_any (A : Option Addr) (n c : Nat) (l : List Ac) (w : World) (hn : l.length = n) (hm : n ≤ 1000) (hs : AcAt w w.heap.size A l) :
    Calls Try.prog 36 #[.slice A n c] w fun e w' => ∃ v, e = .returned v ∧ OwnI w' w.heap.size v (edgesA l) ∧ Ext w w' := by
  have HS := Lib.hid hs; have HN := Lib.hid hn
  clear hs hn
  go_enter Try.func36, Try.ntmps36
  go_wp2
  go_loopw [3, 13] (fun v i wr => ∃ (k : Nat) (out : List Int), k ≤ n ∧ i = .int .i64 k ∧ OwnI wr w.heap.size v out ∧ Hid (out = edgesA (l.take k)) ∧ 1 ≤ out.length ∧ out.length ≤ 1 + 2 * k ∧ Ext w wr) (fun _ i _ => n - (intOf i).toNat)
  case atStart => exact ⟨0, [0], Nat.zero_le _, rfl, OwnI.one_at w _ 0 (Nat.le_refl _), rfl, Nat.le_refl _, Nat.le_refl _, (Below.refl _ _).alloc (Nat.le_refl _) _⟩
  case round =>
    obtain ⟨k, out, hk, rfl, hown, HG, ho1, ho2, hE⟩ := hrel
    by_cases hlt : k < n
    · have hkl : k < l.length := by have := HN.out; omega
      obtain ⟨b, o, rfl, hb, hc⟩ := (HS.out.ext hE) (by omega)
      obtain ⟨c0, c1, c2, c3⟩ := hc k hkl
      clear hc
      have HT := Lib.hid (edgesA_take hkl)
      generalize l[k] = X at *
      obtain ⟨d, x, y, v⟩ := X
      simp only at c0 c1 c2 c3
      have q1 : (0 : Int) ≤ (k : Int) := by omega
      have q2 : (k : Int) < (n : Int) := by omega
      have hD := Lib.hid (fun W => does_any d x y v W)
      by_cases h1 : 0 < lenI x y
      · rw [show decide (0 < lenI x y) = true by simpa using h1] at hD
        have HF : Hid (insL y (insL x out) = edgesA (l.take (k + 1))) := by unfold Hid; rw [HT.out, ← HG.out]; unfold edgeA; simp [h1]
        clear HT HG
        obtain ⟨g, cap, rfl, hgb, hglt⟩ := World.ownsRow.form hown (by omega)
        have e1 : Ext wr (wr.alloc (.cells #[.bool d, .int .i64 x, .int .i64 y, .int .i64 v] 63)) := (Below.refl _ _).alloc (Nat.le_refl _) _
        have z1 : wr.heap.size < (wr.alloc (.cells #[.bool d, .int .i64 x, .int .i64 y, .int .i64 v] 63)).heap.size := by simp
        go_wp2_with (go_at_call 48; with_reducible refine (hD.out _).mono ?_; rintro e w1 ⟨rfl, F1⟩; have k1 := (F1.cell (p := ⟨wr.heap.size, 1, none⟩) z1).trans (show _ = some (.int .i64 x) by simp); have k2 := (F1.cell (p := ⟨wr.heap.size, 2, none⟩) z1).trans (show _ = some (.int .i64 y) by simp); have hz1 : wr.heap.size < w1.heap.size := (by have := F1.size; omega); have E1 : Ext wr w1 := Ext.tr e1 F1; clear F1)
        have hown1 := hown.ext E1
        have E2 : Ext w w1 := Ext.tr hE E1
        clear e1 z1 hown c0 c1 c2 c3 E1 hE
        have own2 := hown1.alloc (.cells #[.int .i64 x, .int .i64 y] 2)
        have r2 : (w1.alloc (.cells #[.int .i64 x, .int .i64 y] 2)).heap[w1.heap.size]? = some (.cells #[.int .i64 x, .int .i64 y] 2 (0, 0)) := heap_alloc_new w1 _
        have E3 : Ext w (w1.alloc (.cells #[.int .i64 x, .int .i64 y] 2)) := Ext.tr E2 ((Below.refl _ _).alloc (Nat.le_refl _) _)
        have hgz : g < w1.heap.size := (World.ownsRow.lt hown1 g rfl).2
        clear hglt hgb k1 k2 E2 hown1 hD hz1
        generalize w1.heap.size = B2 at *
        generalize w1.alloc (.cells #[.int .i64 x, .int .i64 y] 2) = w2 at *
        go_loopw [3, 28] (fun s j wx => ∃ (i : Nat) (o' : List Int), i ≤ 2 ∧ j = .int .i64 i ∧ OwnI wx w.heap.size s o' ∧ s.ownBlock ≠ some B2 ∧ wx.heap[B2]? = some (.cells #[.int .i64 x, .int .i64 y] 2 (0, 0)) ∧ Hid (o' = insK x y i out) ∧ 1 ≤ o'.length ∧ o'.length ≤ out.length + i ∧ Ext w wx) (fun _ j _ => 2 - (intOf j).toNat)
        case atStart => exact ⟨0, out, by omega, rfl, own2, fun e => by simp only [Value.ownBlock, Option.some.injEq] at e; omega, r2, rfl, ho1, by omega, E3⟩
        case round =>
          obtain ⟨i, o', hi, rfl, hown, hnb, rB, HO, hp1, hp2, hEx⟩ := hrel
          rename World => wx
          by_cases hi2 : i < 2
          · obtain ⟨nn, cB, HI⟩ : ∃ nn, wx.cell? ⟨B2, i, none⟩ = some (.int .i64 nn) ∧ Hid (insL nn o' = insK x y (i + 1) out) := by
              rcases (show i = 0 ∨ i = 1 by omega) with rfl | rfl
              · exact ⟨x, by simp [World.cell?, rB], by unfold Hid; rw [HO.out]; rfl⟩
              · exact ⟨y, by simp [World.cell?, rB], by unfold Hid; rw [HO.out]; rfl⟩
            obtain ⟨g2, cap2, rfl, hg2, hgl⟩ := World.ownsRow.form hown (by omega)
            have hBx : B2 < wx.heap.size := (Array.getElem?_eq_some_iff.1 rB).1
            have hIn : InAt wx wx.heap.size (some ⟨g2, 0, none⟩) o' := by
              obtain ⟨A', n', c', e, h1, _, h2⟩ := OwnI.at_ hown
              injection e with e1 e2 e3
              rw [e1]; exact h2
            have hcap : o'.length ≤ cap2 := by
              obtain ⟨A', n', c', e, h1, h3, h2⟩ := OwnI.at_ hown
              injection e with e1 e2 e3
              omega
            have hlen : o'.length ≤ 3000 := by omega
            have hic : ((i : Nat) : Int) < 2 := by omega
            have hic0 : (0 : Int) ≤ (i : Int) := by omega
            go_wp2
            go_loopw [8] (fun s8 wy => ∃ kk : Nat, kk ≤ o'.length ∧ s8 = .int .i64 kk ∧ Hid (∀ z ∈ o'.take kk, z < nn) ∧ wy = wx) (fun s8 _ => o'.length - (intOf s8).toNat)
            case atStart => exact ⟨0, Nat.zero_le _, rfl, fun z hz => absurd hz (by simp), rfl⟩
            case round =>
              obtain ⟨kk, hkk, rfl, HK, hwy⟩ := hrel
              subst hwy
              rename World => wx
              have hkl : (o'.take kk).length = kk := by rw [List.length_take]; omega
              by_cases hk2 : kk < o'.length
              · have s1 : (kk : Int) < (o'.length : Int) := by omega
                have s2 : (0 : Int) ≤ (kk : Int) := by omega
                obtain ⟨b', o2, e, hb', hcc⟩ := hIn (by omega)
                obtain ⟨rfl, rfl⟩ : g2 = b' ∧ 0 = o2 := by injection e with e; injection e with e1 e2; exact ⟨e1, e2⟩
                have cz := hcc kk hk2
                clear hcc e
                rw [Nat.zero_add] at cz
                have hdr : o'.drop kk = o'[kk] :: o'.drop (kk + 1) := List.drop_eq_getElem_cons hk2
                have htk := List.take_succ_eq_append_getElem hk2
                have hta : o'.take kk ++ o'.drop kk = o' := List.take_append_drop _ _
                generalize o'[kk] = z at *
                rw [hdr] at hta
                by_cases hz : z < nn
                · have HK2 : Hid (∀ z ∈ o'.take (kk + 1), z < nn) := fun u hu => by
                    rw [htk] at hu
                    rcases List.mem_append.1 hu with h | h
                    · exact HK.out u h
                    · simp at h; omega
                  clear HK hdr htk hta
                  go_wp2
                  go_roundw
                  case rel => exact ⟨kk + 1, by omega, by go_num, HK2, by first | rfl | trivial⟩
                  case measure => simp [intOf]; omega
                · by_cases he : z = nn
                  · subst he
                    have hIns : Hid (insL z o' = o') := by
                      unfold Hid
                      conv => lhs; rw [← hta]
                      rw [insL_here HK.out, hta]
                    clear HK hdr htk hta
                    go_wp2
                    go_roundw
                    case rel => exact ⟨i + 1, o', by omega, by go_num, hown, hnb, rB, by rw [← HI.out, hIns.out]; rfl, hp1, by omega, hEx⟩
                    case measure => simp [intOf]; omega
                  · have hIns : Hid ([] ++ o'.take kk ++ [nn] ++ o'.drop kk = insL nn o') := by
                      unfold Hid
                      conv => rhs; rw [← hta]
                      rw [insL_gap HK.out (by omega), hdr]; simp
                    have s3 : ¬ (z < nn) := hz
                    clear HK hdr htk hta
                    have own0 := OwnI.nil_at wx wx.heap.size (Nat.le_refl _)
                    have B0 : Ext wx (wx.alloc (.cells #[] 2)) := (Below.refl _ _).alloc (Nat.le_refl _) _
                    have hI0 := ((hIn.take kk).below B0 B0.size)
                    have hz0 : wx.heap.size ≤ (wx.alloc (.cells #[] 2)).heap.size := B0.size
                    go_wp2_with (first
                      | (at_builtin; (refine app_ints _ (by rfl) _ _ (by rfl) wx.heap.size _ [] (o'.take kk) (by rfl) own0 _ kk cap2 hkl (by rfl) _ hI0 (by simp; omega) hz0 ?_; intro v3 w3 own3 gr3; have B3 : Ext wx w3 := below_app_same B0 hz0 own0 gr3; clear gr3; have z3 := B3.size; have z3' : wx.heap.size ≤ (w3.alloc (.cells #[.int .i64 nn] 2)).heap.size := (by simp; omega); have own3' := own3.alloc (.cells #[.int .i64 nn] 2); have B3' : Ext wx (w3.alloc (.cells #[.int .i64 nn] 2)) := B3.alloc z3 _; have hI3 : InAt (w3.alloc (.cells #[.int .i64 nn] 2)) (w3.heap.size + 1) (some ⟨w3.heap.size, 0, none⟩) [nn] := in_one w3 nn))
                      | (at_builtin; (refine app_ints _ (by rfl) _ _ (by rfl) wx.heap.size _ _ [nn] (by rfl) own3' _ 1 1 rfl (by rfl) _ hI3 (by simp; omega) z3' ?_; intro v4 w4 own4 gr4; have B4 : Ext wx w4 := below_app_same B3' z3' own3' gr4; clear gr4; have z4 := B4.size; have hI4 : InAt w4 w4.heap.size (some ⟨g2, kk, none⟩) (o'.drop kk) := (by have h := (hIn.drop kk).below B4 z4; rw [Nat.zero_add] at h; exact h)))
                      | (at_builtin; (refine app_ints _ (by rfl) _ _ (by rfl) wx.heap.size _ _ (o'.drop kk) (by rfl) own4 _ (o'.length - kk) _ (by simp) (by rfl) _ hI4 (by simp; omega) z4 ?_; intro v5 w5 own5 gr5; have B5 : Ext wx w5 := below_app_same B4 z4 own4 gr5; clear gr5)))
                    go_roundw
                    case rel =>
                      refine ⟨i + 1, insL nn o', by omega, by go_num, ?_, own_ne own5 hBx, (B5.block B2 hBx).trans rB, by unfold Hid; rw [HI.out], ?_, ?_, Ext.tr hEx B5⟩
                      · rw [← hIns.out]; exact own5.mono hEx.size
                      · have h := congrArg List.length hIns.out; simp at h; omega
                      · have := insL_len nn o'; omega
                    case measure => simp [intOf]; omega
              · have s1 : ¬ ((kk : Int) < (o'.length : Int)) := by omega
                have s2 : (0 : Int) ≤ (kk : Int) := by omega
                have hIns : Hid ([] ++ o'.take kk ++ [nn] ++ o'.drop kk = insL nn o') := by
                  unfold Hid
                  have h := HK.out
                  rw [List.take_of_length_le (by omega)] at h ⊢
                  rw [insL_lt h, List.drop_of_length_le (by omega)]; simp
                clear HK
                by_cases hck : cap2 = kk
                · subst hck
                  have own0 := OwnI.nil_at wx wx.heap.size (Nat.le_refl _)
                  have B0 : Ext wx (wx.alloc (.cells #[] 2)) := (Below.refl _ _).alloc (Nat.le_refl _) _
                  have hI0 := ((hIn.take cap2).below B0 B0.size)
                  have hz0 : wx.heap.size ≤ (wx.alloc (.cells #[] 2)).heap.size := B0.size
                  go_wp2_with (first
                    | (at_builtin; (refine app_ints _ (by rfl) _ _ (by rfl) wx.heap.size _ [] (o'.take cap2) (by rfl) own0 _ cap2 cap2 hkl (by rfl) _ hI0 (by simp; omega) hz0 ?_; intro v3 w3 own3 gr3; have B3 : Ext wx w3 := below_app_same B0 hz0 own0 gr3; clear gr3; have z3 := B3.size; have z3' : wx.heap.size ≤ (w3.alloc (.cells #[.int .i64 nn] 2)).heap.size := (by simp; omega); have own3' := own3.alloc (.cells #[.int .i64 nn] 2); have B3' : Ext wx (w3.alloc (.cells #[.int .i64 nn] 2)) := B3.alloc z3 _; have hI3 : InAt (w3.alloc (.cells #[.int .i64 nn] 2)) (w3.heap.size + 1) (some ⟨w3.heap.size, 0, none⟩) [nn] := in_one w3 nn))
                    | (at_builtin; (refine app_ints _ (by rfl) _ _ (by rfl) wx.heap.size _ _ [nn] (by rfl) own3' _ 1 1 rfl (by rfl) _ hI3 (by simp; omega) z3' ?_; intro v4 w4 own4 gr4; have B4 : Ext wx w4 := below_app_same B3' z3' own3' gr4; clear gr4; have z4 := B4.size; have hI4 : InAt w4 w4.heap.size (some ⟨g2, 0, none⟩) (o'.drop cap2) := (fun h => by rw [List.length_drop] at h; omega)))
                    | (at_builtin; (refine app_ints _ (by rfl) _ _ (by rfl) wx.heap.size _ _ (o'.drop cap2) (by rfl) own4 _ 0 _ (by rw [List.length_drop]; omega) (by rfl) _ hI4 (by simp; omega) z4 ?_; intro v5 w5 own5 gr5; have B5 : Ext wx w5 := below_app_same B4 z4 own4 gr5; clear gr5)))
                  go_roundw
                  case rel =>
                    refine ⟨i + 1, insL nn o', by omega, by go_num, ?_, own_ne own5 hBx, (B5.block B2 hBx).trans rB, by unfold Hid; rw [HI.out], ?_, ?_, Ext.tr hEx B5⟩
                    · rw [← hIns.out]; exact own5.mono hEx.size
                    · have h := congrArg List.length hIns.out; simp at h; omega
                    · have := insL_len nn o'; omega
                  case measure => simp [intOf]; omega
                · have hck2 : kk < cap2 := by omega
                  have own0 := OwnI.nil_at wx wx.heap.size (Nat.le_refl _)
                  have B0 : Ext wx (wx.alloc (.cells #[] 2)) := (Below.refl _ _).alloc (Nat.le_refl _) _
                  have hI0 := ((hIn.take kk).below B0 B0.size)
                  have hz0 : wx.heap.size ≤ (wx.alloc (.cells #[] 2)).heap.size := B0.size
                  go_wp2_with (first
                    | (at_builtin; (refine app_ints _ (by rfl) _ _ (by rfl) wx.heap.size _ [] (o'.take kk) (by rfl) own0 _ kk cap2 hkl (by rfl) _ hI0 (by simp; omega) hz0 ?_; intro v3 w3 own3 gr3; have B3 : Ext wx w3 := below_app_same B0 hz0 own0 gr3; clear gr3; have z3 := B3.size; have z3' : wx.heap.size ≤ (w3.alloc (.cells #[.int .i64 nn] 2)).heap.size := (by simp; omega); have own3' := own3.alloc (.cells #[.int .i64 nn] 2); have B3' : Ext wx (w3.alloc (.cells #[.int .i64 nn] 2)) := B3.alloc z3 _; have hI3 : InAt (w3.alloc (.cells #[.int .i64 nn] 2)) (w3.heap.size + 1) (some ⟨w3.heap.size, 0, none⟩) [nn] := in_one w3 nn))
                    | (at_builtin; (refine app_ints _ (by rfl) _ _ (by rfl) wx.heap.size _ _ [nn] (by rfl) own3' _ 1 1 rfl (by rfl) _ hI3 (by simp; omega) z3' ?_; intro v4 w4 own4 gr4; have B4 : Ext wx w4 := below_app_same B3' z3' own3' gr4; clear gr4; have z4 := B4.size; have hI4 : InAt w4 w4.heap.size (some ⟨g2, kk, none⟩) (o'.drop kk) := (by have h := (hIn.drop kk).below B4 z4; rw [Nat.zero_add] at h; exact h)))
                    | (at_builtin; (refine app_ints _ (by rfl) _ _ (by rfl) wx.heap.size _ _ (o'.drop kk) (by rfl) own4 _ (o'.length - kk) _ (by simp) (by rfl) _ hI4 (by simp; omega) z4 ?_; intro v5 w5 own5 gr5; have B5 : Ext wx w5 := below_app_same B4 z4 own4 gr5; clear gr5)))
                  go_roundw
                  case rel =>
                    refine ⟨i + 1, insL nn o', by omega, by go_num, ?_, own_ne own5 hBx, (B5.block B2 hBx).trans rB, by unfold Hid; rw [HI.out], ?_, ?_, Ext.tr hEx B5⟩
                    · rw [← hIns.out]; exact own5.mono hEx.size
                    · have h := congrArg List.length hIns.out; simp at h; omega
                    · have := insL_len nn o'; omega
                  case measure => simp [intOf]; omega
          · obtain rfl : i = 2 := by omega
            have HF2 : Hid (o' = edgesA (l.take (k + 1))) := by unfold Hid; rw [HO.out]; exact HF.out
            go_wp2
            go_roundw
            case rel => exact ⟨k + 1, o', by omega, by go_num, hown, HF2, hp1, by omega, hEx⟩
            case measure => simp [intOf]; omega
      · rw [show decide (0 < lenI x y) = false by simpa using h1] at hD
        have HF : Hid (out = edgesA (l.take (k + 1))) := by unfold Hid; rw [HT.out, ← HG.out]; unfold edgeA; simp [h1]
        clear HT HG
        have e1 : Ext wr (wr.alloc (.cells #[.bool d, .int .i64 x, .int .i64 y, .int .i64 v] 63)) := (Below.refl _ _).alloc (Nat.le_refl _) _
        go_wp2_with (go_at_call 48; with_reducible refine (hD.out _).mono ?_; rintro e w1 ⟨rfl, F1⟩; have E1 := Lib.hid (Ext.tr e1 F1); clear F1)
        go_roundw
        case rel => exact ⟨k + 1, out, by omega, by go_num, hown.ext E1.out, HF, ho1, by omega, Ext.tr hE E1.out⟩
        case measure => simp [intOf]; omega
    · obtain rfl : k = n := by omega
      have hlk : l.take k = l := List.take_of_length_le (by have := HN.out; omega)
      have HF : Hid (out = edgesA l) := by rw [hlk] at HG; exact HG
      clear HG hlk
      go_wp2
      go_ret
      exact ⟨_, rfl, by rw [← HF.out]; exact hown, hE⟩
end Go.Proofs.Ytlnfpolhccbnpaa
