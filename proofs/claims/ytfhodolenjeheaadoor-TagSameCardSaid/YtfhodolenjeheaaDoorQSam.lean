/-
  The walk of TagSame.
-/
import Derived.Test.YtfhodolenjeheaaDoorTP
namespace Go.Proofs.YtfhodolenjeheaaDoor
open Go Go.RowKit

set_option maxHeartbeats 16000000 in
set_option maxRecDepth 100000 in
theorem walk_TagSame (s : ByteArray) (p : Bool) (t : ByteArray) (q : Bool) (w : World) (hs : s.size ≤ szM) (ht : t.size ≤ szM) :
    Calls Tryd.prog 7 #[.agg #[.string s, .bool p], .agg #[.string t, .bool q]] w fun e w' => e = .returned (.bool true) ∧ Below w.heap.size w w' := by
  unfold szM at hs ht
  by_cases h1 : s.size > 300
  · go_enter Tryd.func7, Tryd.ntmps7
    go_wp2_with fail
    with_reducible refine (awake_any _).mono ?_
    rintro e w1 ⟨rfl, hb1⟩
    obtain ⟨p1, q1, r1, s1, x1, y1, E1⟩ := cells2 hb1
    go_wp2_with fail
    with_reducible refine (awake_any _).mono ?_
    rintro e w2 ⟨rfl, hb2⟩
    go_wp2_with fail
    go_ret
    exact ⟨rfl, Ext.tr E1 hb2⟩
  by_cases h2 : t.size > 300
  · go_enter Tryd.func7, Tryd.ntmps7
    go_wp2_with fail
    with_reducible refine (awake_any _).mono ?_
    rintro e w1 ⟨rfl, hb1⟩
    obtain ⟨p1, q1, r1, s1, x1, y1, E1⟩ := cells2 hb1
    go_wp2_with fail
    with_reducible refine (awake_any _).mono ?_
    rintro e w2 ⟨rfl, hb2⟩
    go_wp2_with fail
    go_ret
    exact ⟨rfl, Ext.tr E1 hb2⟩
  cases hst : stD (s, p) (t, q) with
  | true =>
    obtain ⟨hwk, hab⟩ := stD_same hst
    injection hab with ha hb
    subst ha
    subst hb
    have hS := fun W => strong_any s s p p W (szM_max (by unfold szM; omega)) (szM_max (by unfold szM; omega))
    have hSr := fun W => rstrong_any s s p p W (szM_max (by unfold szM; omega)) (szM_max (by unfold szM; omega))
    have hV := fun W => weak_any s s p p W (szM_max (by unfold szM; omega)) (szM_max (by unfold szM; omega))
    have hVr := fun W => rweak_any s s p p W (szM_max (by unfold szM; omega)) (szM_max (by unfold szM; omega))
    simp only at hwk
    rw [hst] at hS hSr
    rw [hwk] at hV hVr
    have hS2 := hS
    have hV2 := hV
    clear hst hwk
    have u1 : (s.toList == s.toList) = true := by simp
    have u2 : (p == p) = true := by simp
    go_enter Tryd.func7, Tryd.ntmps7
    go_wp2_with fail
    with_reducible refine (awake_any _).mono ?_
    rintro e w1 ⟨rfl, hb1⟩
    obtain ⟨p1, q1, r1, s1, x1, y1, E1⟩ := cells2 hb1
    have g0 : ∀ W, Ext w1 W → W.cell? ⟨w.heap.size, 0, none⟩ = some (.string s) := fun W h => by rw [h.cell (p := ⟨w.heap.size, 0, none⟩) x1]; exact p1
    have g1 : ∀ W, Ext w1 W → W.cell? ⟨w.heap.size, 1, none⟩ = some (.bool p) := fun W h => by rw [h.cell (p := ⟨w.heap.size, 1, none⟩) x1]; exact q1
    have g2 : ∀ W, Ext w1 W → W.cell? ⟨w.heap.size + 1, 0, none⟩ = some (.string s) := fun W h => by rw [h.cell (p := ⟨w.heap.size + 1, 0, none⟩) y1]; exact r1
    have g3 : ∀ W, Ext w1 W → W.cell? ⟨w.heap.size + 1, 1, none⟩ = some (.bool p) := fun W h => by rw [h.cell (p := ⟨w.heap.size + 1, 1, none⟩) y1]; exact s1
    clear hb1
    go_wp2_with fail
    clear p1 q1 r1 s1
    refine' wp_region_made (rels := relsOf ((.val _) :: (.val _) :: (.val _) :: (.val _) :: (.val _) :: (.val _) :: (.val _) :: (.val _) :: (.val _) :: (.val _) :: (.val _) :: (.val _) :: (.val _) :: (.val _) :: (.val _) :: (.val _) :: (.val _) :: (.val _) :: (.val _) :: (.val _) :: (.val _) :: (.val _) :: (.val _) :: (.val _) :: (.val _) :: (.val _) :: (.val _) :: (.val _) :: (.val _) :: (.val _) :: (.val _) :: (.val _) :: (.val _) :: (.val _) :: (.val _) :: (.val _) :: (.val _) :: (.val _) :: (.val _) :: (.val _) :: (.val _) :: (.val _) :: (.val _) :: (.val _) :: (.val _) :: (.val _) :: (.val _) :: (.val _) :: (.val _) :: (.val _) :: (.val _) :: [])) (w := w1) 70 (by kernel_rfl) (by kernel_rfl) (by rfl) (relsOf_stable ?stc2) ?wkc2
    case stc2 => exact stable_val (stable_val (stable_val (stable_val (stable_val (stable_val (stable_val (stable_val (stable_val (stable_val (stable_val (stable_val (stable_val (stable_val (stable_val (stable_val (stable_val (stable_val (stable_val (stable_val (stable_val (stable_val (stable_val (stable_val (stable_val (stable_val (stable_val (stable_val (stable_val (stable_val (stable_val (stable_val (stable_val (stable_val (stable_val (stable_val (stable_val (stable_val (stable_val (stable_val (stable_val (stable_val (stable_val (stable_val (stable_val (stable_val (stable_val (stable_val (stable_val (stable_val (stable_val (stable_nil)))))))))))))))))))))))))))))))))))))))))))))))))))
    case wkc2 =>
      refine' walk_val (by rfl) ?ac20 (fun K hK => ?bc20); (case ac20 => (intro W hW hd; clear hd; go_simp; first | exact ⟨Ext.rf _, rfl⟩ | rfl)); (go_simp; refine hK _ ?_; clear hK K)
      refine' walk_val (by rfl) ?ac21 (fun K hK => ?bc21); (case ac21 => (intro W hW hd; clear hd; go_simp; first | exact ⟨Ext.rf _, rfl⟩ | rfl)); (go_simp; refine hK _ ?_; clear hK K)
      refine' walk_val (by rfl) ?ac22 (fun K hK => ?bc22); (case ac22 => (intro W hW hd; go_simp; (clear hd; exact makes_val (hS _)))); (go_simp; refine hK _ ?_; clear hK K)
      refine' walk_val (by rfl) ?ac23 (fun K hK => ?bc23); (case ac23 => (intro W hW hd; clear hd; go_simp; first | exact ⟨Ext.rf _, rfl⟩ | rfl)); (go_simp; refine hK _ ?_; clear hK K)
      refine' walk_val (by rfl) ?ac24 (fun K hK => ?bc24); (case ac24 => (intro W hW hd; clear hd; go_simp; first | exact ⟨Ext.rf _, rfl⟩ | rfl)); (go_simp; refine hK _ ?_; clear hK K)
      refine' walk_val (by rfl) ?ac25 (fun K hK => ?bc25); (case ac25 => (intro W hW hd; go_simp; (clear hd; exact makes_val (hSr _)))); (go_simp; refine hK _ ?_; clear hK K)
      refine' walk_val (by rfl) ?ac26 (fun K hK => ?bc26); (case ac26 => (intro W hW hd; clear hd; go_simp; first | exact ⟨Ext.rf _, rfl⟩ | rfl)); (go_simp; refine hK _ ?_; clear hK K)
      refine' walk_val (by rfl) ?ac27 (fun K hK => ?bc27); (case ac27 => (intro W hW hd; clear hd; go_simp; first | exact ⟨Ext.rf _, rfl⟩ | rfl)); (go_simp; refine hK _ ?_; clear hK K)
      refine' walk_val (by rfl) ?ac28 (fun K hK => ?bc28); (case ac28 => (intro W hW hd; clear hd; go_simp; first | exact ⟨Ext.rf _, rfl⟩ | rfl)); (go_simp; refine hK _ ?_; clear hK K)
      refine' walk_val (by rfl) ?ac29 (fun K hK => ?bc29); (case ac29 => (intro W hW hd; clear hd; go_simp; first | exact ⟨Ext.rf _, rfl⟩ | rfl)); (go_simp; refine hK _ ?_; clear hK K)
      refine' walk_val (by rfl) ?ac210 (fun K hK => ?bc210); (case ac210 => (intro W hW hd; go_simp; (clear hd; exact makes_val (hV _)))); (go_simp; refine hK _ ?_; clear hK K)
      refine' walk_val (by rfl) ?ac211 (fun K hK => ?bc211); (case ac211 => (intro W hW hd; clear hd; go_simp; first | exact ⟨Ext.rf _, rfl⟩ | rfl)); (go_simp; refine hK _ ?_; clear hK K)
      refine' walk_val (by rfl) ?ac212 (fun K hK => ?bc212); (case ac212 => (intro W hW hd; clear hd; go_simp; first | exact ⟨Ext.rf _, rfl⟩ | rfl)); (go_simp; refine hK _ ?_; clear hK K)
      refine' walk_val (by rfl) ?ac213 (fun K hK => ?bc213); (case ac213 => (intro W hW hd; go_simp; (clear hd; exact makes_val (hVr _)))); (go_simp; refine hK _ ?_; clear hK K)
      refine' walk_val (by rfl) ?ac214 (fun K hK => ?bc214); (case ac214 => (intro W hW hd; clear hd; go_simp; first | exact ⟨Ext.rf _, rfl⟩ | rfl)); (go_simp; refine hK _ ?_; clear hK K)
      refine' walk_val (by rfl) ?ac215 (fun K hK => ?bc215); (case ac215 => (intro W hW hd; clear hd; go_simp; first | exact ⟨Ext.rf _, rfl⟩ | rfl)); (go_simp; refine hK _ ?_; clear hK K)
      refine' walk_val (by rfl) ?ac216 (fun K hK => ?bc216); (case ac216 => (intro W hW hd; clear hd; go_simp; first | exact ⟨Ext.rf _, rfl⟩ | rfl)); (go_simp; refine hK _ ?_; clear hK K)
      refine' walk_val (by rfl) ?ac217 (fun K hK => ?bc217); (case ac217 => (intro W hW hd; clear hd; go_simp; first | exact ⟨Ext.rf _, rfl⟩ | rfl)); (go_simp; refine hK _ ?_; clear hK K)
      refine' walk_val (by rfl) ?ac218 (fun K hK => ?bc218); (case ac218 => (intro W hW hd; clear hd; go_simp; first | exact ⟨Ext.rf _, rfl⟩ | rfl)); (go_simp; refine hK _ ?_; clear hK K)
      refine' walk_val (by rfl) ?ac219 (fun K hK => ?bc219); (case ac219 => (intro W hW hd; go_simp; (clear hd; exact makes_val (hS _)))); (go_simp; refine hK _ ?_; clear hK K)
      refine' walk_val (by rfl) ?ac220 (fun K hK => ?bc220); (case ac220 => (intro W hW hd; clear hd; go_simp; first | exact ⟨Ext.rf _, rfl⟩ | rfl)); (go_simp; refine hK _ ?_; clear hK K)
      refine' walk_val (by rfl) ?ac221 (fun K hK => ?bc221); (case ac221 => (intro W hW hd; clear hd; go_simp; first | exact ⟨Ext.rf _, rfl⟩ | rfl)); (go_simp; refine hK _ ?_; clear hK K)
      refine' walk_val (by rfl) ?ac222 (fun K hK => ?bc222); (case ac222 => (intro W hW hd; go_simp; (clear hd; exact makes_val (hS2 _)))); (go_simp; refine hK _ ?_; clear hK K)
      refine' walk_val (by rfl) ?ac223 (fun K hK => ?bc223); (case ac223 => (intro W hW hd; clear hd; go_simp; first | exact ⟨Ext.rf _, rfl⟩ | rfl)); (go_simp; refine hK _ ?_; clear hK K)
      refine' walk_val (by rfl) ?ac224 (fun K hK => ?bc224); (case ac224 => (intro W hW hd; clear hd; go_simp; first | exact ⟨Ext.rf _, rfl⟩ | rfl)); (go_simp; refine hK _ ?_; clear hK K)
      refine' walk_val (by rfl) ?ac225 (fun K hK => ?bc225); (case ac225 => (intro W hW hd; clear hd; go_simp; first | exact ⟨Ext.rf _, rfl⟩ | rfl)); (go_simp; refine hK _ ?_; clear hK K)
      refine' walk_val (by rfl) ?ac226 (fun K hK => ?bc226); (case ac226 => (intro W hW hd; clear hd; go_simp; first | exact ⟨Ext.rf _, rfl⟩ | rfl)); (go_simp; refine hK _ ?_; clear hK K)
      refine' walk_val (by rfl) ?ac227 (fun K hK => ?bc227); (case ac227 => (intro W hW hd; clear hd; go_simp; first | exact ⟨Ext.rf _, rfl⟩ | rfl)); (go_simp; refine hK _ ?_; clear hK K)
      refine' walk_val (by rfl) ?ac228 (fun K hK => ?bc228); (case ac228 => (intro W hW hd; go_simp; (clear hd; exact makes_val (hV _)))); (go_simp; refine hK _ ?_; clear hK K)
      refine' walk_val (by rfl) ?ac229 (fun K hK => ?bc229); (case ac229 => (intro W hW hd; clear hd; go_simp; first | exact ⟨Ext.rf _, rfl⟩ | rfl)); (go_simp; refine hK _ ?_; clear hK K)
      refine' walk_val (by rfl) ?ac230 (fun K hK => ?bc230); (case ac230 => (intro W hW hd; clear hd; go_simp; first | exact ⟨Ext.rf _, rfl⟩ | rfl)); (go_simp; refine hK _ ?_; clear hK K)
      refine' walk_val (by rfl) ?ac231 (fun K hK => ?bc231); (case ac231 => (intro W hW hd; go_simp; (clear hd; exact makes_val (hV2 _)))); (go_simp; refine hK _ ?_; clear hK K)
      refine' walk_val (by rfl) ?ac232 (fun K hK => ?bc232); (case ac232 => (intro W hW hd; clear hd; go_simp; first | exact ⟨Ext.rf _, rfl⟩ | rfl)); (go_simp; refine hK _ ?_; clear hK K)
      refine' walk_val (by rfl) ?ac233 (fun K hK => ?bc233); (case ac233 => (intro W hW hd; clear hd; go_simp; first | exact ⟨Ext.rf _, rfl⟩ | rfl)); (go_simp; refine hK _ ?_; clear hK K)
      refine' walk_val (by rfl) ?ac234 (fun K hK => ?bc234); (case ac234 => (intro W hW hd; clear hd; go_simp; first | exact ⟨Ext.rf _, rfl⟩ | rfl)); (go_simp; refine hK _ ?_; clear hK K)
      refine' walk_val (by rfl) ?ac235 (fun K hK => ?bc235); (case ac235 => (intro W hW hd; clear hd; go_simp; first | exact ⟨Ext.rf _, rfl⟩ | rfl)); (go_simp; refine hK _ ?_; clear hK K)
      refine' walk_val (by rfl) ?ac236 (fun K hK => ?bc236); (case ac236 => (intro W hW hd; clear hd; go_simp; first | exact ⟨Ext.rf _, rfl⟩ | rfl)); (go_simp; refine hK _ ?_; clear hK K)
      refine' walk_val (by rfl) ?ac237 (fun K hK => ?bc237); (case ac237 => (intro W hW hd; go_simp; (clear hd; exact makes_val (hS _)))); (go_simp; refine hK _ ?_; clear hK K)
      refine' walk_val (by rfl) ?ac238 (fun K hK => ?bc238); (case ac238 => (intro W hW hd; clear hd; go_simp; first | exact ⟨Ext.rf _, rfl⟩ | rfl)); (go_simp; refine hK _ ?_; clear hK K)
      refine' walk_val (by rfl) ?ac239 (fun K hK => ?bc239); (case ac239 => (intro W hW hd; clear hd; go_simp; first | exact ⟨Ext.rf _, rfl⟩ | rfl)); (go_simp; refine hK _ ?_; clear hK K)
      refine' walk_val (by rfl) ?ac240 (fun K hK => ?bc240); (case ac240 => (intro W hW hd; clear hd; go_simp; first | exact ⟨Ext.rf _, rfl⟩ | rfl)); (go_simp; refine hK _ ?_; clear hK K)
      refine' walk_val (by rfl) ?ac241 (fun K hK => ?bc241); (case ac241 => (intro W hW hd; clear hd; go_simp; first | exact ⟨Ext.rf _, rfl⟩ | rfl)); (go_simp; refine hK _ ?_; clear hK K)
      refine' walk_val (by rfl) ?ac242 (fun K hK => ?bc242); (case ac242 => (intro W hW hd; go_simp; (clear hd; exact makes_val (hV _)))); (go_simp; refine hK _ ?_; clear hK K)
      refine' walk_val (by rfl) ?ac243 (fun K hK => ?bc243); (case ac243 => (intro W hW hd; clear hd; go_simp; first | exact ⟨Ext.rf _, rfl⟩ | rfl)); (go_simp; refine hK _ ?_; clear hK K)
      refine' walk_val (by rfl) ?ac244 (fun K hK => ?bc244); (case ac244 => (intro W hW hd; clear hd; go_simp; first | exact ⟨Ext.rf _, rfl⟩ | rfl)); (go_simp; refine hK _ ?_; clear hK K)
      refine' walk_val (by rfl) ?ac245 (fun K hK => ?bc245); (case ac245 => (intro W hW hd; clear hd; go_simp; first | exact ⟨Ext.rf _, rfl⟩ | rfl)); (go_simp; refine hK _ ?_; clear hK K)
      refine' walk_val (by rfl) ?ac246 (fun K hK => ?bc246); (case ac246 => (intro W hW hd; clear hd; go_simp; first | exact ⟨Ext.rf _, rfl⟩ | rfl)); (go_simp; refine hK _ ?_; clear hK K)
      refine' walk_val (by rfl) ?ac247 (fun K hK => ?bc247); (case ac247 => (intro W hW hd; clear hd; go_simp; first | exact ⟨Ext.rf _, rfl⟩ | rfl)); (go_simp; refine hK _ ?_; clear hK K)
      refine' walk_val (by rfl) ?ac248 (fun K hK => ?bc248); (case ac248 => (intro W hW hd; clear hd; go_simp; first | exact ⟨Ext.rf _, rfl⟩ | rfl)); (go_simp; refine hK _ ?_; clear hK K)
      refine' walk_val (by rfl) ?ac249 (fun K hK => ?bc249); (case ac249 => (intro W hW hd; clear hd; go_simp; first | exact ⟨Ext.rf _, rfl⟩ | rfl)); (go_simp; refine hK _ ?_; clear hK K)
      refine' walk_val (by rfl) ?ac250 (fun K hK => ?bc250); (case ac250 => (intro W hW hd; clear hd; go_simp; first | exact ⟨Ext.rf _, rfl⟩ | rfl)); (go_simp; refine hK _ ?_; clear hK K)
      refine walk_end (fun W hW hfin => ?_)
      have B6 : Ext w W := Ext.tr E1 hW
      clear hfin
      go_wp2
      go_ret
      exact ⟨rfl, B6⟩
  | false =>
    have hS := fun W => strong_any s t p q W (szM_max (by unfold szM; omega)) (szM_max (by unfold szM; omega))
    have hSr := fun W => rstrong_any s t p q W (szM_max (by unfold szM; omega)) (szM_max (by unfold szM; omega))
    have hV := fun W => weak_any s t p q W (szM_max (by unfold szM; omega)) (szM_max (by unfold szM; omega))
    have hVr := fun W => rweak_any s t p q W (szM_max (by unfold szM; omega)) (szM_max (by unfold szM; omega))
    have hS2 := fun W => strong_any t s q p W (szM_max (by unfold szM; omega)) (szM_max (by unfold szM; omega))
    have hV2 := fun W => weak_any t s q p W (szM_max (by unfold szM; omega)) (szM_max (by unfold szM; omega))
    rw [stD_comm] at hS2
    rw [wkD_comm] at hV2
    rw [hst] at hS hSr hS2
    clear hst
    generalize wkD s t = b at *
    have u1 : (b == b) = true := by simp
    go_enter Tryd.func7, Tryd.ntmps7
    go_wp2_with fail
    with_reducible refine (awake_any _).mono ?_
    rintro e w1 ⟨rfl, hb1⟩
    obtain ⟨p1, q1, r1, s1, x1, y1, E1⟩ := cells2 hb1
    have g0 : ∀ W, Ext w1 W → W.cell? ⟨w.heap.size, 0, none⟩ = some (.string s) := fun W h => by rw [h.cell (p := ⟨w.heap.size, 0, none⟩) x1]; exact p1
    have g1 : ∀ W, Ext w1 W → W.cell? ⟨w.heap.size, 1, none⟩ = some (.bool p) := fun W h => by rw [h.cell (p := ⟨w.heap.size, 1, none⟩) x1]; exact q1
    have g2 : ∀ W, Ext w1 W → W.cell? ⟨w.heap.size + 1, 0, none⟩ = some (.string t) := fun W h => by rw [h.cell (p := ⟨w.heap.size + 1, 0, none⟩) y1]; exact r1
    have g3 : ∀ W, Ext w1 W → W.cell? ⟨w.heap.size + 1, 1, none⟩ = some (.bool q) := fun W h => by rw [h.cell (p := ⟨w.heap.size + 1, 1, none⟩) y1]; exact s1
    clear hb1
    go_wp2_with fail
    clear p1 q1 r1 s1
    refine' wp_region_made (rels := relsOf ((.val _) :: (.val _) :: (.val _) :: (.val _) :: (.val _) :: (.val _) :: (.val _) :: (.val _) :: (.val _) :: (.val _) :: (.val _) :: (.val _) :: (.val _) :: (.val _) :: (.val _) :: (.val _) :: (.val _) :: (.val _) :: (.val _) :: (.val _) :: (.val _) :: (.val _) :: (.val _) :: (.val _) :: (.val _) :: (.val _) :: (.val _) :: (.val _) :: (.val _) :: (.val _) :: (.val _) :: (.val _) :: (.val _) :: (.val _) :: (.val _) :: (.val _) :: (.val _) :: (.val _) :: (.val _) :: (.val _) :: (.val _) :: (.val _) :: (.val _) :: (.val _) :: (.val _) :: (.val _) :: (.val _) :: (.val _) :: (.val _) :: (.val _) :: (.val _) :: [])) (w := w1) 70 (by kernel_rfl) (by kernel_rfl) (by rfl) (relsOf_stable ?stc1) ?wkc1
    case stc1 => exact stable_val (stable_val (stable_val (stable_val (stable_val (stable_val (stable_val (stable_val (stable_val (stable_val (stable_val (stable_val (stable_val (stable_val (stable_val (stable_val (stable_val (stable_val (stable_val (stable_val (stable_val (stable_val (stable_val (stable_val (stable_val (stable_val (stable_val (stable_val (stable_val (stable_val (stable_val (stable_val (stable_val (stable_val (stable_val (stable_val (stable_val (stable_val (stable_val (stable_val (stable_val (stable_val (stable_val (stable_val (stable_val (stable_val (stable_val (stable_val (stable_val (stable_val (stable_val (stable_nil)))))))))))))))))))))))))))))))))))))))))))))))))))
    case wkc1 =>
      refine' walk_val (by rfl) ?ac10 (fun K hK => ?bc10); (case ac10 => (intro W hW hd; clear hd; go_simp; first | exact ⟨Ext.rf _, rfl⟩ | rfl)); (go_simp; refine hK _ ?_; clear hK K)
      refine' walk_val (by rfl) ?ac11 (fun K hK => ?bc11); (case ac11 => (intro W hW hd; clear hd; go_simp; first | exact ⟨Ext.rf _, rfl⟩ | rfl)); (go_simp; refine hK _ ?_; clear hK K)
      refine' walk_val (by rfl) ?ac12 (fun K hK => ?bc12); (case ac12 => (intro W hW hd; go_simp; (clear hd; exact makes_val (hS _)))); (go_simp; refine hK _ ?_; clear hK K)
      refine' walk_val (by rfl) ?ac13 (fun K hK => ?bc13); (case ac13 => (intro W hW hd; clear hd; go_simp; first | exact ⟨Ext.rf _, rfl⟩ | rfl)); (go_simp; refine hK _ ?_; clear hK K)
      refine' walk_val (by rfl) ?ac14 (fun K hK => ?bc14); (case ac14 => (intro W hW hd; clear hd; go_simp; first | exact ⟨Ext.rf _, rfl⟩ | rfl)); (go_simp; refine hK _ ?_; clear hK K)
      refine' walk_val (by rfl) ?ac15 (fun K hK => ?bc15); (case ac15 => (intro W hW hd; go_simp; (clear hd; exact makes_val (hSr _)))); (go_simp; refine hK _ ?_; clear hK K)
      refine' walk_val (by rfl) ?ac16 (fun K hK => ?bc16); (case ac16 => (intro W hW hd; clear hd; go_simp; first | exact ⟨Ext.rf _, rfl⟩ | rfl)); (go_simp; refine hK _ ?_; clear hK K)
      refine' walk_val (by rfl) ?ac17 (fun K hK => ?bc17); (case ac17 => (intro W hW hd; clear hd; go_simp; first | exact ⟨Ext.rf _, rfl⟩ | rfl)); (go_simp; refine hK _ ?_; clear hK K)
      refine' walk_val (by rfl) ?ac18 (fun K hK => ?bc18); (case ac18 => (intro W hW hd; clear hd; go_simp; first | exact ⟨Ext.rf _, rfl⟩ | rfl)); (go_simp; refine hK _ ?_; clear hK K)
      refine' walk_val (by rfl) ?ac19 (fun K hK => ?bc19); (case ac19 => (intro W hW hd; clear hd; go_simp; first | exact ⟨Ext.rf _, rfl⟩ | rfl)); (go_simp; refine hK _ ?_; clear hK K)
      refine' walk_val (by rfl) ?ac110 (fun K hK => ?bc110); (case ac110 => (intro W hW hd; go_simp; (clear hd; exact makes_val (hV _)))); (go_simp; refine hK _ ?_; clear hK K)
      refine' walk_val (by rfl) ?ac111 (fun K hK => ?bc111); (case ac111 => (intro W hW hd; clear hd; go_simp; first | exact ⟨Ext.rf _, rfl⟩ | rfl)); (go_simp; refine hK _ ?_; clear hK K)
      refine' walk_val (by rfl) ?ac112 (fun K hK => ?bc112); (case ac112 => (intro W hW hd; clear hd; go_simp; first | exact ⟨Ext.rf _, rfl⟩ | rfl)); (go_simp; refine hK _ ?_; clear hK K)
      refine' walk_val (by rfl) ?ac113 (fun K hK => ?bc113); (case ac113 => (intro W hW hd; go_simp; (clear hd; exact makes_val (hVr _)))); (go_simp; refine hK _ ?_; clear hK K)
      refine' walk_val (by rfl) ?ac114 (fun K hK => ?bc114); (case ac114 => (intro W hW hd; clear hd; go_simp; first | exact ⟨Ext.rf _, rfl⟩ | rfl)); (go_simp; refine hK _ ?_; clear hK K)
      refine' walk_val (by rfl) ?ac115 (fun K hK => ?bc115); (case ac115 => (intro W hW hd; clear hd; go_simp; first | exact ⟨Ext.rf _, rfl⟩ | rfl)); (go_simp; refine hK _ ?_; clear hK K)
      refine' walk_val (by rfl) ?ac116 (fun K hK => ?bc116); (case ac116 => (intro W hW hd; clear hd; go_simp; first | exact ⟨Ext.rf _, rfl⟩ | rfl)); (go_simp; refine hK _ ?_; clear hK K)
      refine' walk_val (by rfl) ?ac117 (fun K hK => ?bc117); (case ac117 => (intro W hW hd; clear hd; go_simp; first | exact ⟨Ext.rf _, rfl⟩ | rfl)); (go_simp; refine hK _ ?_; clear hK K)
      refine' walk_val (by rfl) ?ac118 (fun K hK => ?bc118); (case ac118 => (intro W hW hd; clear hd; go_simp; first | exact ⟨Ext.rf _, rfl⟩ | rfl)); (go_simp; refine hK _ ?_; clear hK K)
      refine' walk_val (by rfl) ?ac119 (fun K hK => ?bc119); (case ac119 => (intro W hW hd; go_simp; (clear hd; exact makes_val (hS _)))); (go_simp; refine hK _ ?_; clear hK K)
      refine' walk_val (by rfl) ?ac120 (fun K hK => ?bc120); (case ac120 => (intro W hW hd; clear hd; go_simp; first | exact ⟨Ext.rf _, rfl⟩ | rfl)); (go_simp; refine hK _ ?_; clear hK K)
      refine' walk_val (by rfl) ?ac121 (fun K hK => ?bc121); (case ac121 => (intro W hW hd; clear hd; go_simp; first | exact ⟨Ext.rf _, rfl⟩ | rfl)); (go_simp; refine hK _ ?_; clear hK K)
      refine' walk_val (by rfl) ?ac122 (fun K hK => ?bc122); (case ac122 => (intro W hW hd; go_simp; (clear hd; exact makes_val (hS2 _)))); (go_simp; refine hK _ ?_; clear hK K)
      refine' walk_val (by rfl) ?ac123 (fun K hK => ?bc123); (case ac123 => (intro W hW hd; clear hd; go_simp; first | exact ⟨Ext.rf _, rfl⟩ | rfl)); (go_simp; refine hK _ ?_; clear hK K)
      refine' walk_val (by rfl) ?ac124 (fun K hK => ?bc124); (case ac124 => (intro W hW hd; clear hd; go_simp; first | exact ⟨Ext.rf _, rfl⟩ | rfl)); (go_simp; refine hK _ ?_; clear hK K)
      refine' walk_val (by rfl) ?ac125 (fun K hK => ?bc125); (case ac125 => (intro W hW hd; clear hd; go_simp; first | exact ⟨Ext.rf _, rfl⟩ | rfl)); (go_simp; refine hK _ ?_; clear hK K)
      refine' walk_val (by rfl) ?ac126 (fun K hK => ?bc126); (case ac126 => (intro W hW hd; clear hd; go_simp; first | exact ⟨Ext.rf _, rfl⟩ | rfl)); (go_simp; refine hK _ ?_; clear hK K)
      refine' walk_val (by rfl) ?ac127 (fun K hK => ?bc127); (case ac127 => (intro W hW hd; clear hd; go_simp; first | exact ⟨Ext.rf _, rfl⟩ | rfl)); (go_simp; refine hK _ ?_; clear hK K)
      refine' walk_val (by rfl) ?ac128 (fun K hK => ?bc128); (case ac128 => (intro W hW hd; go_simp; (clear hd; exact makes_val (hV _)))); (go_simp; refine hK _ ?_; clear hK K)
      refine' walk_val (by rfl) ?ac129 (fun K hK => ?bc129); (case ac129 => (intro W hW hd; clear hd; go_simp; first | exact ⟨Ext.rf _, rfl⟩ | rfl)); (go_simp; refine hK _ ?_; clear hK K)
      refine' walk_val (by rfl) ?ac130 (fun K hK => ?bc130); (case ac130 => (intro W hW hd; clear hd; go_simp; first | exact ⟨Ext.rf _, rfl⟩ | rfl)); (go_simp; refine hK _ ?_; clear hK K)
      refine' walk_val (by rfl) ?ac131 (fun K hK => ?bc131); (case ac131 => (intro W hW hd; go_simp; (clear hd; exact makes_val (hV2 _)))); (go_simp; refine hK _ ?_; clear hK K)
      refine' walk_val (by rfl) ?ac132 (fun K hK => ?bc132); (case ac132 => (intro W hW hd; clear hd; go_simp; first | exact ⟨Ext.rf _, rfl⟩ | rfl)); (go_simp; refine hK _ ?_; clear hK K)
      refine' walk_val (by rfl) ?ac133 (fun K hK => ?bc133); (case ac133 => (intro W hW hd; clear hd; go_simp; first | exact ⟨Ext.rf _, rfl⟩ | rfl)); (go_simp; refine hK _ ?_; clear hK K)
      refine' walk_val (by rfl) ?ac134 (fun K hK => ?bc134); (case ac134 => (intro W hW hd; clear hd; go_simp; first | exact ⟨Ext.rf _, rfl⟩ | rfl)); (go_simp; refine hK _ ?_; clear hK K)
      refine' walk_val (by rfl) ?ac135 (fun K hK => ?bc135); (case ac135 => (intro W hW hd; clear hd; go_simp; first | exact ⟨Ext.rf _, rfl⟩ | rfl)); (go_simp; refine hK _ ?_; clear hK K)
      refine' walk_val (by rfl) ?ac136 (fun K hK => ?bc136); (case ac136 => (intro W hW hd; clear hd; go_simp; first | exact ⟨Ext.rf _, rfl⟩ | rfl)); (go_simp; refine hK _ ?_; clear hK K)
      refine' walk_val (by rfl) ?ac137 (fun K hK => ?bc137); (case ac137 => (intro W hW hd; go_simp; (clear hd; exact makes_val (hS _)))); (go_simp; refine hK _ ?_; clear hK K)
      refine' walk_val (by rfl) ?ac138 (fun K hK => ?bc138); (case ac138 => (intro W hW hd; clear hd; go_simp; first | exact ⟨Ext.rf _, rfl⟩ | rfl)); (go_simp; refine hK _ ?_; clear hK K)
      refine' walk_val (by rfl) ?ac139 (fun K hK => ?bc139); (case ac139 => (intro W hW hd; clear hd; go_simp; first | exact ⟨Ext.rf _, rfl⟩ | rfl)); (go_simp; refine hK _ ?_; clear hK K)
      refine' walk_val (by rfl) ?ac140 (fun K hK => ?bc140); (case ac140 => (intro W hW hd; clear hd; go_simp; first | exact ⟨Ext.rf _, rfl⟩ | rfl)); (go_simp; refine hK _ ?_; clear hK K)
      refine' walk_val (by rfl) ?ac141 (fun K hK => ?bc141); (case ac141 => (intro W hW hd; clear hd; go_simp; first | exact ⟨Ext.rf _, rfl⟩ | rfl)); (go_simp; refine hK _ ?_; clear hK K)
      refine' walk_val (by rfl) ?ac142 (fun K hK => ?bc142); (case ac142 => (intro W hW hd; clear hd; go_simp; first | exact ⟨Ext.rf _, rfl⟩ | rfl)); (go_simp; refine hK _ ?_; clear hK K)
      refine' walk_val (by rfl) ?ac143 (fun K hK => ?bc143); (case ac143 => (intro W hW hd; clear hd; go_simp; first | exact ⟨Ext.rf _, rfl⟩ | rfl)); (go_simp; refine hK _ ?_; clear hK K)
      refine' walk_val (by rfl) ?ac144 (fun K hK => ?bc144); (case ac144 => (intro W hW hd; clear hd; go_simp; first | exact ⟨Ext.rf _, rfl⟩ | rfl)); (go_simp; refine hK _ ?_; clear hK K)
      refine' walk_val (by rfl) ?ac145 (fun K hK => ?bc145); (case ac145 => (intro W hW hd; clear hd; go_simp; first | exact ⟨Ext.rf _, rfl⟩ | rfl)); (go_simp; refine hK _ ?_; clear hK K)
      refine' walk_val (by rfl) ?ac146 (fun K hK => ?bc146); (case ac146 => (intro W hW hd; clear hd; go_simp; first | exact ⟨Ext.rf _, rfl⟩ | rfl)); (go_simp; refine hK _ ?_; clear hK K)
      refine' walk_val (by rfl) ?ac147 (fun K hK => ?bc147); (case ac147 => (intro W hW hd; clear hd; go_simp; first | exact ⟨Ext.rf _, rfl⟩ | rfl)); (go_simp; refine hK _ ?_; clear hK K)
      refine' walk_val (by rfl) ?ac148 (fun K hK => ?bc148); (case ac148 => (intro W hW hd; clear hd; go_simp; first | exact ⟨Ext.rf _, rfl⟩ | rfl)); (go_simp; refine hK _ ?_; clear hK K)
      refine' walk_val (by rfl) ?ac149 (fun K hK => ?bc149); (case ac149 => (intro W hW hd; clear hd; go_simp; first | exact ⟨Ext.rf _, rfl⟩ | rfl)); (go_simp; refine hK _ ?_; clear hK K)
      refine' walk_val (by rfl) ?ac150 (fun K hK => ?bc150); (case ac150 => (intro W hW hd; clear hd; go_simp; first | exact ⟨Ext.rf _, rfl⟩ | rfl)); (go_simp; refine hK _ ?_; clear hK K)
      refine walk_end (fun W hW hfin => ?_)
      have B6 : Ext w W := Ext.tr E1 hW
      clear hfin
      go_wp2
      go_ret
      exact ⟨rfl, B6⟩
end Go.Proofs.YtfhodolenjeheaaDoor
