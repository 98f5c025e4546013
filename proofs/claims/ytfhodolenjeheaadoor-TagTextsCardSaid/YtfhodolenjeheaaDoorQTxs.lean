/-
  The walk of TagTexts.
-/
import Derived.Test.YtfhodolenjeheaaDoorTP
import Derived.Test.YtfhodolenjeheaaDoorTT
namespace Go.Proofs.YtfhodolenjeheaaDoor
open Go Go.RowKit

set_option maxHeartbeats 16000000 in
set_option maxRecDepth 100000 in
theorem walk_TagTexts (t : ByteArray) (q : Bool) (A : Option Addr) (n c : Nat) (l : List Tg) (al : Bool) (w : World) (ht : t.size ≤ szM) (hn : l.length = n) (hm : n ≤ maxLen) (hM : Mx l) (hs : TgAt w w.heap.size A l) :
    Calls Tryd.prog 4 #[.agg #[.string t, .bool q], .slice A n c, .bool al] w fun e w' => e = .returned (.bool true) ∧ Below w.heap.size w w' := by
  unfold szM at ht
  have HS := Lib.hid hs
  have HL := Lib.hid hn
  have HM := Lib.hid hM
  clear hs hn hM
  by_cases h2 : t.size > 300
  · go_enter Tryd.func4, Tryd.ntmps4
    go_wp2_with fail
    with_reducible refine (awake_any _).mono ?_
    rintro e w1 ⟨rfl, hb1⟩
    obtain ⟨p1, q1, r1, s1, x1, E1⟩ := one_cells hb1
    go_wp2_with (go_at_call 10; with_reducible refine (awake_any _).mono ?_; rintro e w2 ⟨rfl, hb2⟩)
    go_ret
    exact ⟨rfl, Ext.tr E1 hb2⟩
  by_cases hg : greatD l = true
  · have HGR : Hid (greatD l = true) := hg
    clear hg
    go_enter Tryd.func4, Tryd.ntmps4
    go_wp2_with fail
    with_reducible refine (awake_any _).mono ?_
    rintro e w1 ⟨rfl, hb1⟩
    obtain ⟨p1, q1, r1, s1, x1, E1⟩ := one_cells hb1
    go_wp2_with (first
      | (go_at_call 15; with_reducible refine (great_any A n c l _ HL.out hm HM.out (HS.out.below E1 E1.size)).mono ?_; rintro e w1' ⟨rfl, rfl⟩; rw [HGR.out])
      | (go_at_call 10; with_reducible refine (awake_any _).mono ?_; rintro e w2 ⟨rfl, hb2⟩))
    go_ret
    exact ⟨rfl, Ext.tr E1 hb2⟩
  have HGR : Hid (greatD l = false) := Bool.eq_false_iff.2 hg
  have hgs : gsum l ≤ 400 := by have := HGR.out; unfold greatD at this; simpa using this
  have hn4 : n ≤ 400 := by have := gsum_len l; have := HL.out; omega
  clear hg
  have hT := fun W => text_any t q W (szM_max (by unfold szM; omega))
  have hTr := fun W => rtext_any t q W (szM_max (by unfold szM; omega))
  generalize (⟨(spellL (t, q)).toArray⟩ : ByteArray) = tb at *
  obtain ⟨lb, hlb⟩ : ∃ lb : ByteArray, (⟨(txtD l al).toArray⟩ : ByteArray) = lb := ⟨_, rfl⟩
  have hTx := fun A2 n2 c2 W => texts_any A2 n2 c2 l al W
  have hTy := fun A2 n2 c2 W => rtexts_any A2 n2 c2 l al W
  rw [hlb] at hTx hTy
  clear hlb
  have u1 : (tb.toList == tb.toList) = true := by simp
  have u2 : (lb.toList == lb.toList) = true := by simp
  go_enter Tryd.func4, Tryd.ntmps4
  go_wp2_with fail
  with_reducible refine (awake_any _).mono ?_
  rintro e w1 ⟨rfl, hb1⟩
  obtain ⟨p1, q1, r1, s1, x1, E1⟩ := one_cells hb1
  have g0 : ∀ W, Ext w1 W → W.cell? ⟨w.heap.size, 0, none⟩ = some (.string t) := fun W h => by rw [h.cell (p := ⟨w.heap.size, 0, none⟩) x1]; exact p1
  have g1 : ∀ W, Ext w1 W → W.cell? ⟨w.heap.size, 1, none⟩ = some (.bool q) := fun W h => by rw [h.cell (p := ⟨w.heap.size, 1, none⟩) x1]; exact q1
  clear hb1
  go_wp2_with (go_at_call 15; with_reducible refine (great_any A n c l _ HL.out hm HM.out (HS.out.below E1 E1.size)).mono ?_; rintro e w1' ⟨rfl, rfl⟩; rw [HGR.out])
  clear p1 q1 r1 s1 HGR
  have HTx := Lib.hid hTx
  have HTy := Lib.hid hTy
  clear hTx hTy
  refine' wp_region_made (rels := relsOf ((.val _) :: (.val _) :: (.val _) :: (.val _) :: (.val _) :: (.val _) :: (.rel EmpT) :: (.val _) :: (.rel (fun v W => IsTg W v l)) :: (.val _) :: (.val _) :: (.val _) :: (.val _) :: (.val _) :: (.val _) :: (.val _) :: (.val _) :: [])) (w := w1) 36 (by kernel_rfl) (by kernel_rfl) (by rfl) (relsOf_stable ?stx) ?wkx
  case stx => exact stable_val (stable_val (stable_val (stable_val (stable_val (stable_val (stable_rel EmpT.st (stable_val (stable_rel IsTg.st (stable_val (stable_val (stable_val (stable_val (stable_val (stable_val (stable_val (stable_val (stable_nil)))))))))))))))))
  case wkx =>
    refine' walk_val (by rfl) ?ax0 (fun K hK => ?bx0); (case ax0 => (intro W hW hd; clear hd; go_simp; first | exact ⟨Ext.rf _, rfl⟩ | rfl)); (go_simp; refine hK _ ?_; clear hK K)
    refine' walk_val (by rfl) ?ax1 (fun K hK => ?bx1); (case ax1 => (intro W hW hd; go_simp; (clear hd; exact makes_val (hT _)))); (go_simp; refine hK _ ?_; clear hK K)
    refine' walk_val (by rfl) ?ax2 (fun K hK => ?bx2); (case ax2 => (intro W hW hd; clear hd; go_simp; first | exact ⟨Ext.rf _, rfl⟩ | rfl)); (go_simp; refine hK _ ?_; clear hK K)
    refine' walk_val (by rfl) ?ax3 (fun K hK => ?bx3); (case ax3 => (intro W hW hd; go_simp; (clear hd; exact makes_val (hTr _)))); (go_simp; refine hK _ ?_; clear hK K)
    refine' walk_val (by rfl) ?ax4 (fun K hK => ?bx4); (case ax4 => (intro W hW hd; clear hd; go_simp; first | exact ⟨Ext.rf _, rfl⟩ | rfl)); (go_simp; refine hK _ ?_; clear hK K)
    refine' walk_val (by rfl) ?ax5 (fun K hK => ?bx5); (case ax5 => (intro W hW hd; clear hd; go_simp; first | exact ⟨Ext.rf _, rfl⟩ | rfl)); (go_simp; refine hK _ ?_; clear hK K)
    refine' walk_rel (by rfl) ?ax6 (fun vx6 K hK => ?bx6); (case ax6 => (intro W hW hd; go_simp; (clear hd; exact ⟨(Below.refl _ _).alloc (Nat.le_refl _) _, EmpT.made W⟩))); (go_simp; refine hK _ ?_; clear hK K)
    refine' walk_val (by rfl) ?ax7 (fun K hK => ?bx7); (case ax7 => (intro W hW hd; clear hd; go_simp; first | exact ⟨Ext.rf _, rfl⟩ | rfl)); (go_simp; refine hK _ ?_; clear hK K)
    refine' walk_rel (by rfl) ?ax8 (fun vx8 K hK => ?bx8); (case ax8 => (intro W hW hd; (have hm := dep_rel hd ⟨6, .data⟩ 26 vx6 (by simp) (by rfl) (by rfl) (by rfl) (by rfl); clear hd; exact copy_makes (by rfl) hm A n c l (by rfl) (by rfl) HL.out (by omega) (HS.out.below (E1.tr hW) (E1.tr hW).size) (by rfl)))); (go_simp; refine hK _ ?_; clear hK K)
    refine' walk_val (by rfl) ?ax9 (fun K hK => ?bx9); (case ax9 => (intro W hW hd; clear hd; go_simp; first | exact ⟨Ext.rf _, rfl⟩ | rfl)); (go_simp; refine hK _ ?_; clear hK K)
    refine' walk_val (by rfl) ?ax10 (fun K hK => ?bx10); (case ax10 => (intro W hW hd; go_simp; (have hm := dep_rel hd ⟨8, .data⟩ 28 vx8 (by simp) (by rfl) (by rfl) (by rfl) (by rfl); clear hd; obtain ⟨A2, n2, c2, rfl, HN2, -, hs2⟩ := hm.split; exact makes_val (HTx.out A2 n2 c2 W HN2.out (by have := HN2.out; have := HL.out; omega) HM.out hs2)))); (go_simp; refine hK _ ?_; clear hK K)
    refine' walk_val (by rfl) ?ax11 (fun K hK => ?bx11); (case ax11 => (intro W hW hd; clear hd; go_simp; first | exact ⟨Ext.rf _, rfl⟩ | rfl)); (go_simp; refine hK _ ?_; clear hK K)
    refine' walk_val (by rfl) ?ax12 (fun K hK => ?bx12); (case ax12 => (intro W hW hd; clear hd; go_simp; first | exact ⟨Ext.rf _, rfl⟩ | rfl)); (go_simp; refine hK _ ?_; clear hK K)
    refine' walk_val (by rfl) ?ax13 (fun K hK => ?bx13); (case ax13 => (intro W hW hd; go_simp; (clear hd; exact makes_val (HTy.out A n c W HL.out (by omega) HM.out (HS.out.below (E1.tr hW) (E1.tr hW).size))))); (go_simp; refine hK _ ?_; clear hK K)
    refine' walk_val (by rfl) ?ax14 (fun K hK => ?bx14); (case ax14 => (intro W hW hd; clear hd; go_simp; first | exact ⟨Ext.rf _, rfl⟩ | rfl)); (go_simp; refine hK _ ?_; clear hK K)
    refine' walk_val (by rfl) ?ax15 (fun K hK => ?bx15); (case ax15 => (intro W hW hd; clear hd; go_simp; first | exact ⟨Ext.rf _, rfl⟩ | rfl)); (go_simp; refine hK _ ?_; clear hK K)
    refine' walk_val (by rfl) ?ax16 (fun K hK => ?bx16); (case ax16 => (intro W hW hd; clear hd; go_simp; first | exact ⟨Ext.rf _, rfl⟩ | rfl)); (go_simp; refine hK _ ?_; clear hK K)
    refine walk_end (fun W hW hfin => ?_)
    have B6 : Ext w W := Ext.tr E1 hW
    clear hfin
    go_wp2
    go_ret
    exact ⟨rfl, B6⟩
end Go.Proofs.YtfhodolenjeheaaDoor
