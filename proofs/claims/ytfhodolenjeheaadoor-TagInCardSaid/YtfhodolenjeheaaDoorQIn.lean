/-
  The walk of TagIn.
-/
import Derived.Test.YtfhodolenjeheaaDoorTP
import Derived.Test.YtfhodolenjeheaaDoorTI
import Derived.Test.YtfhodolenjeheaaDoorTT
namespace Go.Proofs.YtfhodolenjeheaaDoor
open Go Go.RowKit

set_option maxHeartbeats 16000000 in
set_option maxRecDepth 100000 in
theorem walk_TagIn (A : Option Addr) (n c : Nat) (l : List Tg) (t : ByteArray) (q st : Bool) (w : World) (hn : l.length = n) (hm : n ≤ maxLen) (hM : Mx l) (hs : TgAt w w.heap.size A l) (ht : t.size ≤ szM) :
    Calls Tryd.prog 8 #[.slice A n c, .agg #[.string t, .bool q], .bool st] w fun e w' => e = .returned (.bool true) ∧ Below w.heap.size w w' := by
  unfold szM at ht
  have HS := Lib.hid hs
  have HL := Lib.hid hn
  have HM := Lib.hid hM
  clear hs hn hM
  by_cases hg : greatD l = true
  · have HGR : Hid (greatD l = true) := hg
    clear hg
    go_enter Tryd.func8, Tryd.ntmps8
    go_wp2_with fail
    with_reducible refine (awake_any _).mono ?_
    rintro e w1 ⟨rfl, hb1⟩
    obtain ⟨p1, q1, r1, s1, x1, E1⟩ := one_cells hb1
    go_wp2_with (first
      | (go_at_call 15; with_reducible refine (great_any A n c l _ HL.out hm HM.out (HS.out.below E1 E1.size)).mono ?_; rintro e w1' ⟨rfl, rfl⟩; rw [HGR.out])
      | (go_at_call 10; with_reducible refine (awake_any _).mono ?_; rintro e w2 ⟨rfl, hb2⟩))
    go_ret
    exact ⟨rfl, Ext.tr E1 hb2⟩
  have HGR : Hid (greatD l = false) := Bool.eq_false_iff.2 hg
  have hgs : gsum l ≤ 400 := by have := HGR.out; unfold greatD at this; simpa using this
  have hn4 : n ≤ 400 := by have := gsum_len l; have := HL.out; omega
  clear hg
  by_cases h2 : t.size > 300
  · go_enter Tryd.func8, Tryd.ntmps8
    go_wp2_with fail
    with_reducible refine (awake_any _).mono ?_
    rintro e w1 ⟨rfl, hb1⟩
    obtain ⟨p1, q1, r1, s1, x1, E1⟩ := one_cells hb1
    go_wp2_with (first
      | (go_at_call 15; with_reducible refine (great_any A n c l _ HL.out hm HM.out (HS.out.below E1 E1.size)).mono ?_; rintro e w1' ⟨rfl, rfl⟩; rw [HGR.out])
      | (go_at_call 10; with_reducible refine (awake_any _).mono ?_; rintro e w2 ⟨rfl, hb2⟩))
    go_ret
    exact ⟨rfl, Ext.tr E1 hb2⟩
  go_enter Tryd.func8, Tryd.ntmps8
  go_wp2_with fail
  with_reducible refine (awake_any _).mono ?_
  rintro e w1 ⟨rfl, hb1⟩
  obtain ⟨p1, q1, r1, s1, x1, E1⟩ := one_cells hb1
  have g0 : ∀ W, Ext w1 W → W.cell? ⟨w.heap.size, 0, none⟩ = some (.string t) := fun W h => by rw [h.cell (p := ⟨w.heap.size, 0, none⟩) x1]; exact p1
  have g1 : ∀ W, Ext w1 W → W.cell? ⟨w.heap.size, 1, none⟩ = some (.bool q) := fun W h => by rw [h.cell (p := ⟨w.heap.size, 1, none⟩) x1]; exact q1
  clear hb1
  go_wp2_with (go_at_call 15; with_reducible refine (great_any A n c l _ HL.out hm HM.out (HS.out.below E1 E1.size)).mono ?_; rintro e w1' ⟨rfl, rfl⟩; rw [HGR.out])
  clear p1 q1 r1 s1 HGR
  generalize hXB : inD l (t, q) st = xb
  have HXB := Lib.hid hXB
  clear hXB
  have u1 : (xb == xb) = true := by simp
  refine' wp_region_made (rels := relsOf ((.rel EmpT) :: (.val _) :: (.rel (fun v W => IsTg W v l)) :: (.val _) :: (.val _) :: (.val _) :: (.val _) :: (.val _) :: (.val _) :: (.val _) :: (.val _) :: (.val _) :: [])) (w := w1) 31 (by kernel_rfl) (by kernel_rfl) (by rfl) (relsOf_stable ?sti) ?wki
  case sti => exact stable_rel EmpT.st (stable_val (stable_rel IsTg.st (stable_val (stable_val (stable_val (stable_val (stable_val (stable_val (stable_val (stable_val (stable_val (stable_nil))))))))))))
  case wki =>
    refine' walk_rel (by rfl) ?ai0 (fun vi0 K hK => ?bi0); (case ai0 => (intro W hW hd; go_simp; (clear hd; exact ⟨(Below.refl _ _).alloc (Nat.le_refl _) _, EmpT.made W⟩))); (go_simp; refine hK _ ?_; clear hK K)
    refine' walk_val (by rfl) ?ai1 (fun K hK => ?bi1); (case ai1 => (intro W hW hd; clear hd; go_simp; first | exact ⟨Ext.rf _, rfl⟩ | rfl)); (go_simp; refine hK _ ?_; clear hK K)
    refine' walk_rel (by rfl) ?ai2 (fun vi2 K hK => ?bi2); (case ai2 => (intro W hW hd; (have hm := dep_rel hd ⟨0, .data⟩ 20 vi0 (by simp) (by rfl) (by rfl) (by rfl) (by rfl); clear hd; exact copy_makes (by rfl) hm A n c l (by rfl) (by rfl) HL.out (by omega) (HS.out.below (E1.tr hW) (E1.tr hW).size) (by rfl)))); (go_simp; refine hK _ ?_; clear hK K)
    refine' walk_val (by rfl) ?ai3 (fun K hK => ?bi3); (case ai3 => (intro W hW hd; clear hd; go_simp; first | exact ⟨Ext.rf _, rfl⟩ | rfl)); (go_simp; refine hK _ ?_; clear hK K)
    refine' walk_val (by rfl) ?ai4 (fun K hK => ?bi4); (case ai4 => (intro W hW hd; clear hd; go_simp; first | exact ⟨Ext.rf _, rfl⟩ | rfl)); (go_simp; refine hK _ ?_; clear hK K)
    refine' walk_val (by rfl) ?ai5 (fun K hK => ?bi5); (case ai5 => (intro W hW hd; go_simp; (have hm := dep_rel hd ⟨2, .data⟩ 22 vi2 (by simp) (by rfl) (by rfl) (by rfl) (by rfl); clear hd; obtain ⟨A2, n2, c2, rfl, HN2, -, hs2⟩ := hm.split; exact makes_val (in_any A2 n2 c2 l t q st W HN2.out (by have := HN2.out; have := HL.out; omega) HM.out (szM_max (by unfold szM; omega)) hs2)))); (go_simp; refine hK _ ?_; clear hK K)
    refine' walk_val (by rfl) ?ai6 (fun K hK => ?bi6); (case ai6 => (intro W hW hd; clear hd; go_simp; first | exact ⟨Ext.rf _, rfl⟩ | rfl)); (go_simp; refine hK _ ?_; clear hK K)
    refine' walk_val (by rfl) ?ai7 (fun K hK => ?bi7); (case ai7 => (intro W hW hd; clear hd; go_simp; first | exact ⟨Ext.rf _, rfl⟩ | rfl)); (go_simp; refine hK _ ?_; clear hK K)
    refine' walk_val (by rfl) ?ai8 (fun K hK => ?bi8); (case ai8 => (intro W hW hd; clear hd; go_simp; first | exact ⟨Ext.rf _, rfl⟩ | rfl)); (go_simp; refine hK _ ?_; clear hK K)
    refine' walk_val (by rfl) ?ai9 (fun K hK => ?bi9); (case ai9 => (intro W hW hd; go_simp; (clear hd; exact makes_val (rin_any A n c l t q st W HL.out (by omega) HM.out (szM_max (by unfold szM; omega)) (HS.out.below (E1.tr hW) (E1.tr hW).size))))); (go_simp; refine hK _ ?_; clear hK K)
    refine' walk_val (by rfl) ?ai10 (fun K hK => ?bi10); (case ai10 => (intro W hW hd; clear hd; go_simp; first | exact ⟨Ext.rf _, rfl⟩ | rfl)); (go_simp; refine hK _ ?_; clear hK K)
    refine' walk_val (by rfl) ?ai11 (fun K hK => ?bi11); (case ai11 => (intro W hW hd; clear hd; go_simp; first | exact ⟨Ext.rf _, rfl⟩ | rfl)); (go_simp; refine hK _ ?_; clear hK K)
    refine walk_end (fun W hW hfin => ?_)
    have B6 : Ext w W := Ext.tr E1 hW
    clear hfin
    go_wp2
    go_ret
    exact ⟨rfl, B6⟩
end Go.Proofs.YtfhodolenjeheaaDoor
