/-
  The walk of TagRight.
-/
import Derived.Test.YtfhodolenjeheaaDoorTP
namespace Go.Proofs.YtfhodolenjeheaaDoor
open Go Go.RowKit

set_option maxHeartbeats 16000000 in
set_option maxRecDepth 100000 in
theorem walk_TagRight (s t : ByteArray) (q : Bool) (w : World) (_hs : s.size ≤ maxLen) (ht : t.size ≤ szM) :
    Calls Tryd.prog 3 #[.string s, .agg #[.string t, .bool q]] w fun e w' => e = .returned (.bool true) ∧ Below w.heap.size w w' := by
  unfold szM at ht
  by_cases h1 : s.size > 300
  · go_enter Tryd.func3, Tryd.ntmps3
    go_wp2_with fail
    with_reducible refine (awake_any _).mono ?_
    rintro e w1 ⟨rfl, hb1⟩
    obtain ⟨p1, q1, r1, s1, x1, E1⟩ := one_cells hb1
    go_wp2_with fail
    with_reducible refine (awake_any _).mono ?_
    rintro e w2 ⟨rfl, hb2⟩
    go_wp2_with fail
    go_ret
    exact ⟨rfl, Ext.tr E1 hb2⟩
  by_cases h2 : t.size > 300
  · go_enter Tryd.func3, Tryd.ntmps3
    go_wp2_with fail
    with_reducible refine (awake_any _).mono ?_
    rintro e w1 ⟨rfl, hb1⟩
    obtain ⟨p1, q1, r1, s1, x1, E1⟩ := one_cells hb1
    go_wp2_with fail
    with_reducible refine (awake_any _).mono ?_
    rintro e w2 ⟨rfl, hb2⟩
    go_wp2_with fail
    go_ret
    exact ⟨rfl, Ext.tr E1 hb2⟩
  have hR := fun W => right_any t q W (szM_max (by unfold szM; omega))
  have hRr := fun W => rright_any t q W (szM_max (by unfold szM; omega))
  have hA := fun W => parse_any s W (by unfold szM; omega)
  have hB := fun W => rparse_any s W (by omega)
  unfold parseV at hA hB
  generalize okS t = r at *
  generalize errD (readL (trimB s.data.toList)).2 = E at *
  generalize (readL (trimB s.data.toList)).1.1 = X at *
  generalize (readL (trimB s.data.toList)).1.2 = Y at *
  have u1 : (X.toList == X.toList) = true := by simp
  have u2 : (Y == Y) = true := by simp
  have u3 : (E == E) = true := by simp
  have u4 : (r == r) = true := by simp
  go_enter Tryd.func3, Tryd.ntmps3
  go_wp2_with fail
  with_reducible refine (awake_any _).mono ?_
  rintro e w1 ⟨rfl, hb1⟩
  obtain ⟨p1, q1, r1, s1, x1, E1⟩ := one_cells hb1
  go_wp2_with fail
  with_reducible refine (hA _).mono ?_
  rintro e w2 ⟨rfl, hb2⟩
  have C2 := hb1.trans (hb2.mono hb1.size)
  go_wp2_with fail
  with_reducible refine (hB _).mono ?_
  rintro e w3 ⟨rfl, hb3⟩
  have e3 : Ext w2 w3 := Ext.tr ((Below.refl _ _).alloc (Nat.le_refl _) _) hb3
  obtain ⟨a0, a1, -, -, a4, -⟩ := one_cells hb3
  have C3 := C2.trans (e3.mono C2.size)
  obtain ⟨p3, q3, r3, s3, x3, E3⟩ := one_cells C3
  clear hb1 hb2 hb3 C2 C3 p1 q1 r1 s1 e3
  go_wp2_with fail
  have l1 : w.heap.size < w3.heap.size + 1 := by omega
  have l2 : w2.heap.size < w3.heap.size + 1 := by omega
  have hz5 : (w3.alloc (.cells #[.string X, .bool Y] 23)).heap.size = w3.heap.size + 1 := by simp
  have e4 : Ext w3 (w3.alloc (.cells #[.string X, .bool Y] 23)) := (Below.refl _ _).alloc (Nat.le_refl _) _
  have E5 : Ext w (w3.alloc (.cells #[.string X, .bool Y] 23)) := Ext.tr E3 ((Below.refl _ _).alloc (Nat.le_refl _) _)
  have b0 : (w3.alloc (.cells #[.string X, .bool Y] 23)).cell? ⟨w3.heap.size, 0, none⟩ = some (.string X) := by simp
  have b1 : (w3.alloc (.cells #[.string X, .bool Y] 23)).cell? ⟨w3.heap.size, 1, none⟩ = some (.bool Y) := by simp
  have c0 : (w3.alloc (.cells #[.string X, .bool Y] 23)).cell? ⟨w2.heap.size, 0, none⟩ = some (.string X) := by rw [e4.cell (p := ⟨w2.heap.size, 0, none⟩) a4]; exact a0
  have c1 : (w3.alloc (.cells #[.string X, .bool Y] 23)).cell? ⟨w2.heap.size, 1, none⟩ = some (.bool Y) := by rw [e4.cell (p := ⟨w2.heap.size, 1, none⟩) a4]; exact a1
  have d0 : (w3.alloc (.cells #[.string X, .bool Y] 23)).cell? ⟨w.heap.size, 0, none⟩ = some (.string t) := by rw [e4.cell (p := ⟨w.heap.size, 0, none⟩) x3]; exact p3
  have d1 : (w3.alloc (.cells #[.string X, .bool Y] 23)).cell? ⟨w.heap.size, 1, none⟩ = some (.bool q) := by rw [e4.cell (p := ⟨w.heap.size, 1, none⟩) x3]; exact q3
  have l3 : w3.heap.size < w3.heap.size + 1 := by omega
  rw [← hz5] at l1 l2 l3
  clear hz5 e4 a0 a1 a4 p3 q3 r3 s3 x3 E3
  generalize w3.alloc (.cells #[.string X, .bool Y] 23) = w5 at *
  generalize w3.heap.size = z3 at *
  generalize w2.heap.size = z2 at *
  have g0 : ∀ W, Ext w5 W → W.cell? ⟨w.heap.size, 0, none⟩ = some (.string t) := fun W h => by rw [h.cell (p := ⟨w.heap.size, 0, none⟩) l1]; exact d0
  have g1 : ∀ W, Ext w5 W → W.cell? ⟨w.heap.size, 1, none⟩ = some (.bool q) := fun W h => by rw [h.cell (p := ⟨w.heap.size, 1, none⟩) l1]; exact d1
  have g2 : ∀ W, Ext w5 W → W.cell? ⟨z2, 0, none⟩ = some (.string X) := fun W h => by rw [h.cell (p := ⟨z2, 0, none⟩) l2]; exact c0
  have g3 : ∀ W, Ext w5 W → W.cell? ⟨z2, 1, none⟩ = some (.bool Y) := fun W h => by rw [h.cell (p := ⟨z2, 1, none⟩) l2]; exact c1
  have g4 : ∀ W, Ext w5 W → W.cell? ⟨z3, 0, none⟩ = some (.string X) := fun W h => by rw [h.cell (p := ⟨z3, 0, none⟩) l3]; exact b0
  have g5 : ∀ W, Ext w5 W → W.cell? ⟨z3, 1, none⟩ = some (.bool Y) := fun W h => by rw [h.cell (p := ⟨z3, 1, none⟩) l3]; exact b1
  clear b0 b1 c0 c1 d0 d1
  refine' wp_region_made (rels := relsOf ((.val _) :: (.val _) :: (.val _) :: (.val _) :: (.val _) :: (.val _) :: (.val _) :: (.val _) :: (.val _) :: (.val _) :: (.val _) :: (.val _) :: (.val _) :: (.val _) :: (.val _) :: (.val _) :: [])) (w := w5) 48 (by kernel_rfl) (by kernel_rfl) (by rfl) (relsOf_stable ?str) ?wkr
  case str => exact stable_val (stable_val (stable_val (stable_val (stable_val (stable_val (stable_val (stable_val (stable_val (stable_val (stable_val (stable_val (stable_val (stable_val (stable_val (stable_val (stable_nil))))))))))))))))
  case wkr =>
    refine' walk_val (by rfl) ?ar0 (fun K hK => ?br0); (case ar0 => (intro W hW hd; clear hd; go_simp; first | exact ⟨Ext.rf _, rfl⟩ | rfl)); (go_simp; refine hK _ ?_; clear hK K)
    refine' walk_val (by rfl) ?ar1 (fun K hK => ?br1); (case ar1 => (intro W hW hd; clear hd; go_simp; first | exact ⟨Ext.rf _, rfl⟩ | rfl)); (go_simp; refine hK _ ?_; clear hK K)
    refine' walk_val (by rfl) ?ar2 (fun K hK => ?br2); (case ar2 => (intro W hW hd; clear hd; go_simp; first | exact ⟨Ext.rf _, rfl⟩ | rfl)); (go_simp; refine hK _ ?_; clear hK K)
    refine' walk_val (by rfl) ?ar3 (fun K hK => ?br3); (case ar3 => (intro W hW hd; clear hd; go_simp; first | exact ⟨Ext.rf _, rfl⟩ | rfl)); (go_simp; refine hK _ ?_; clear hK K)
    refine' walk_val (by rfl) ?ar4 (fun K hK => ?br4); (case ar4 => (intro W hW hd; clear hd; go_simp; first | exact ⟨Ext.rf _, rfl⟩ | rfl)); (go_simp; refine hK _ ?_; clear hK K)
    refine' walk_val (by rfl) ?ar5 (fun K hK => ?br5); (case ar5 => (intro W hW hd; clear hd; go_simp; first | exact ⟨Ext.rf _, rfl⟩ | rfl)); (go_simp; refine hK _ ?_; clear hK K)
    refine' walk_val (by rfl) ?ar6 (fun K hK => ?br6); (case ar6 => (intro W hW hd; clear hd; go_simp; first | exact ⟨Ext.rf _, rfl⟩ | rfl)); (go_simp; refine hK _ ?_; clear hK K)
    refine' walk_val (by rfl) ?ar7 (fun K hK => ?br7); (case ar7 => (intro W hW hd; clear hd; go_simp; first | exact ⟨Ext.rf _, rfl⟩ | rfl)); (go_simp; refine hK _ ?_; clear hK K)
    refine' walk_val (by rfl) ?ar8 (fun K hK => ?br8); (case ar8 => (intro W hW hd; clear hd; go_simp; first | exact ⟨Ext.rf _, rfl⟩ | rfl)); (go_simp; refine hK _ ?_; clear hK K)
    refine' walk_val (by rfl) ?ar9 (fun K hK => ?br9); (case ar9 => (intro W hW hd; clear hd; go_simp; first | exact ⟨Ext.rf _, rfl⟩ | rfl)); (go_simp; refine hK _ ?_; clear hK K)
    refine' walk_val (by rfl) ?ar10 (fun K hK => ?br10); (case ar10 => (intro W hW hd; go_simp; (clear hd; exact makes_val (hR _)))); (go_simp; refine hK _ ?_; clear hK K)
    refine' walk_val (by rfl) ?ar11 (fun K hK => ?br11); (case ar11 => (intro W hW hd; clear hd; go_simp; first | exact ⟨Ext.rf _, rfl⟩ | rfl)); (go_simp; refine hK _ ?_; clear hK K)
    refine' walk_val (by rfl) ?ar12 (fun K hK => ?br12); (case ar12 => (intro W hW hd; go_simp; (clear hd; exact makes_val (hRr _)))); (go_simp; refine hK _ ?_; clear hK K)
    refine' walk_val (by rfl) ?ar13 (fun K hK => ?br13); (case ar13 => (intro W hW hd; clear hd; go_simp; first | exact ⟨Ext.rf _, rfl⟩ | rfl)); (go_simp; refine hK _ ?_; clear hK K)
    refine' walk_val (by rfl) ?ar14 (fun K hK => ?br14); (case ar14 => (intro W hW hd; clear hd; go_simp; first | exact ⟨Ext.rf _, rfl⟩ | rfl)); (go_simp; refine hK _ ?_; clear hK K)
    refine' walk_val (by rfl) ?ar15 (fun K hK => ?br15); (case ar15 => (intro W hW hd; clear hd; go_simp; first | exact ⟨Ext.rf _, rfl⟩ | rfl)); (go_simp; refine hK _ ?_; clear hK K)
    refine walk_end (fun W hW hfin => ?_)
    have B6 : Ext w W := Ext.tr E5 hW
    clear hfin
    go_wp2
    go_ret
    exact ⟨rfl, B6⟩
end Go.Proofs.YtfhodolenjeheaaDoor
