/-
  RangesNear: the walk.
-/
import Derived.Test.YtoimoalkihjcfaaDoorNB
import Derived.Test.YtoimoalkihjcfaaDoorRY
namespace Go.Proofs.YtoimoalkihjcfaaDoor
open Go Go.RowKit

theorem list_yes {W : World} {v u : Value} {l : List Sp} (h : IsSp W v l) (k : IsSp W u l) (hm : l.length ≤ 1000000) :
    Calls Tryd.prog 17 #[v, u] W fun e w' => e = .returned (.bool true) ∧ Below W.heap.size W w' :=
  (list_sp h k hm).mono fun _ _ ⟨he, hb⟩ => ⟨by rw [he]; simp, hb⟩
theorem same_yes {W : World} {v u : Value} {l : List Sp} (h : IsSet W v l) (k : IsSet W u l) (hm : l.length ≤ 1000000) :
    Calls Tryd.prog 28 #[v, u] W fun e w' => e = .returned (.bool true) ∧ Below W.heap.size W w' :=
  (Same_set h k hm).mono fun _ _ ⟨he, hb⟩ => ⟨by rw [he]; simp, hb⟩

set_option maxHeartbeats 8000000 in
set_option maxRecDepth 100000 in
theorem walk_RangesNear (A : Option Addr) (n c : Nat) (l : List Sp) (g : Int) (w : World) (hn : l.length = n) (hmx : n ≤ maxLen) (hs : SpAt w w.heap.size A l) :
    Calls Tryd.prog 7 #[.slice A n c, .int .i64 g] w fun e w' => e = .returned (.bool true) ∧ Below w.heap.size w w' := by
  have HS := Lib.hid hs
  have HN := Lib.hid hn
  clear hs hn
  have hmx' := hmx
  unfold maxLen at hmx'
  by_cases hbig : 20 < n
  · go_enter Tryd.func7, Tryd.ntmps7
    go_wp2_with fail
    with_reducible refine (wakes_any _).mono ?_
    rintro e w1 ⟨rfl, hb1⟩
    go_wp2_with fail
    have hg := great1 w1.heap.size n c A (w1.alloc (.cells #[.slice A n c] 22)) (by simp) hmx
    rw [show decide (20 < n) = true from by simpa using hbig] at hg
    with_reducible refine hg.mono ?_
    rintro e w2 ⟨rfl, rfl⟩
    clear hg
    go_wp2
    go_ret
    exact ⟨rfl, Ext.tr hb1 ((Below.refl _ _).alloc (Nat.le_refl _) _)⟩
  · have hn20 : n ≤ 20 := by omega
    have HCa : Hid (Canon (normL l)) := (normL_norm l).1
    have hnl : (normL l).length ≤ 20 := by have := normL_len l; have := HN.out; omega
    have hcl : (closeL g (normL l)).length ≤ 1000000 := by have := closeL_len g (normL l); omega
    go_enter Tryd.func7, Tryd.ntmps7
    go_wp2_with fail
    with_reducible refine (wakes_any _).mono ?_
    rintro e w1 ⟨rfl, hb1⟩
    go_wp2_with fail
    have hg := great1 w1.heap.size n c A (w1.alloc (.cells #[.slice A n c] 22)) (by simp) hmx
    rw [show decide (20 < n) = false from by simpa using hbig] at hg
    with_reducible refine hg.mono ?_
    rintro e w2 ⟨rfl, rfl⟩
    clear hg
    have E1 : Ext w (w1.alloc (.cells #[.slice A n c] 22)) := Ext.tr hb1 ((Below.refl _ _).alloc (Nat.le_refl _) _)
    clear hb1
    go_wp2_with fail
    have hO := Of_set A n c l _ HN.out (by omega) (HS.out.below E1 E1.size)
    with_reducible refine hO.mono ?_
    rintro e w2 ⟨v2, rfl, hset, hb2⟩
    clear hO
    have E2 := Ext.tr E1 hb2
    have HSet0 := Lib.hid hset
    clear hset hb2 E1
    go_wp2_with fail
    have hF := Near_set g HSet0.out (by omega)
    with_reducible refine hF.mono ?_
    rintro e w3 ⟨v3, rfl, hset, hb3⟩
    clear hF
    have E3' := Ext.tr E2 hb3
    obtain ⟨A2, n2, c2, rfl, HN2, hcc2, -, -⟩ := hset.split
    have a4 : Ext w3 (w3.alloc (.cells #[.slice A2 n2 c2] 26)) := (Below.refl _ _).alloc (Nat.le_refl _) _
    have HSet := Lib.hid (IsSet.st _ _ _ hset a4)
    have E3 := Ext.tr E3' a4
    clear hset hb3 E2 E3' HSet0 HN2
    go_wp2_with fail
    have k0 : ∀ W, Ext (w3.alloc (.cells #[.slice A2 n2 c2] 26)) W → W.cell? ⟨w3.heap.size, 0, none⟩ = some (.slice A2 n2 c2) := fun W h => by rw [h.cell (p := ⟨w3.heap.size, 0, none⟩) (by simp)]; simp
    refine' wp_region_made (rels := relsOf [.val _, .rel (fun v W => IsSp W v (closeL g (normL l))), .val _, .rel (fun v W => IsSp W v (normL l)), .val _, .rel (fun v W => IsSp W v (closeL g (normL l))), .val _, .val _, .val _, .val _, .rel (fun v W => IsSet W v (closeL g (closeL g (normL l)))), .val _, .val _, .val _, .val _]) (w := w3.alloc (.cells #[.slice A2 n2 c2] 26)) 29 (by kernel_rfl) (by kernel_rfl) (by rfl) (relsOf_stable ?st) ?wk
    case st => exact stable_val (stable_rel IsSp.st (stable_val (stable_rel IsSp.st (stable_val (stable_rel IsSp.st (stable_val (stable_val (stable_val (stable_val (stable_rel IsSet.st (stable_val (stable_val (stable_val (stable_val (stable_nil)))))))))))))))
    case wk =>
      refine' walk_val (by rfl) ?a0 (fun K hK => ?b0); (case a0 => (intro W hW hd; clear hd; go_simp; first | exact ⟨Ext.rf _, rfl⟩ | rfl)); (go_simp; refine hK _ ?_; clear hK K)
      refine' walk_rel (by rfl) ?a1 (fun v1 K hK => ?b1); (case a1 => (intro W hW hd; go_simp; (clear hd; exact makes_rel (Spans_set (IsSet.st _ _ _ HSet.out hW) hcl)))); (go_simp; refine hK _ ?_; clear hK K)
      refine' walk_val (by rfl) ?a2 (fun K hK => ?b2); (case a2 => (intro W hW hd; clear hd; go_simp; first | exact ⟨Ext.rf _, rfl⟩ | rfl)); (go_simp; refine hK _ ?_; clear hK K)
      refine' walk_rel (by rfl) ?a3 (fun v3 K hK => ?b3); (case a3 => (intro W hW hd; go_simp; (clear hd; exact makes_rel (rOf_set A n c l _ HN.out (by omega) (HS.out.below (E3.tr hW) (E3.tr hW).size))))); (go_simp; refine hK _ ?_; clear hK K)
      refine' walk_val (by rfl) ?a4 (fun K hK => ?b4); (case a4 => (intro W hW hd; clear hd; go_simp; first | exact ⟨Ext.rf _, rfl⟩ | rfl)); (go_simp; refine hK _ ?_; clear hK K)
      refine' walk_rel (by rfl) ?a5 (fun v5 K hK => ?b5); (case a5 => (intro W hW hd; go_simp; (have hm := dep_rel hd ⟨3, .data⟩ 18 v3 (by simp) (by rfl) (by rfl) (by rfl) (by rfl); clear hd; exact makes_rel (rNear_sp g hm HCa.out (by omega))))); (go_simp; refine hK _ ?_; clear hK K)
      refine' walk_val (by rfl) ?a6 (fun K hK => ?b6); (case a6 => (intro W hW hd; go_simp; (have hm := dep_rel hd ⟨1, .data⟩ 16 v1 (by simp) (by rfl) (by rfl) (by rfl) (by rfl); have hm2 := dep_rel hd ⟨5, .data⟩ 20 v5 (by simp) (by rfl) (by rfl) (by rfl) (by rfl); clear hd; exact makes_val (list_yes hm hm2 hcl)))); (go_simp; refine hK _ ?_; clear hK K)
      refine' walk_val (by rfl) ?a7 (fun K hK => ?b7); (case a7 => (intro W hW hd; clear hd; go_simp; first | exact ⟨Ext.rf _, rfl⟩ | rfl)); (go_simp; refine hK _ ?_; clear hK K)
      refine' walk_val (by rfl) ?a8 (fun K hK => ?b8); (case a8 => (intro W hW hd; clear hd; go_simp; first | exact ⟨Ext.rf _, rfl⟩ | rfl)); (go_simp; refine hK _ ?_; clear hK K)
      refine' walk_val (by rfl) ?a9 (fun K hK => ?b9); (case a9 => (intro W hW hd; clear hd; go_simp; first | exact ⟨Ext.rf _, rfl⟩ | rfl)); (go_simp; refine hK _ ?_; clear hK K)
      refine' walk_rel (by rfl) ?a10 (fun v10 K hK => ?b10); (case a10 => (intro W hW hd; go_simp; (clear hd; exact makes_rel (Near_set g (IsSet.st _ _ _ HSet.out hW) hcl)))); (go_simp; refine hK _ ?_; clear hK K)
      refine' walk_val (by rfl) ?a11 (fun K hK => ?b11); (case a11 => (intro W hW hd; clear hd; go_simp; first | exact ⟨Ext.rf _, rfl⟩ | rfl)); (go_simp; refine hK _ ?_; clear hK K)
      refine' walk_val (by rfl) ?a12 (fun K hK => ?b12); (case a12 => (intro W hW hd; go_simp; (have hm := dep_rel hd ⟨10, .data⟩ 25 v10 (by simp) (by rfl) (by rfl) (by rfl) (by rfl); clear hd; exact makes_val (same_yes (near_again g HCa.out ▸ hm) (IsSet.st _ _ _ HSet.out hW) hcl)))); (go_simp; refine hK _ ?_; clear hK K)
      refine' walk_val (by rfl) ?a13 (fun K hK => ?b13); (case a13 => (intro W hW hd; clear hd; go_simp; first | exact ⟨Ext.rf _, rfl⟩ | rfl)); (go_simp; refine hK _ ?_; clear hK K)
      refine' walk_val (by rfl) ?a14 (fun K hK => ?b14); (case a14 => (intro W hW hd; clear hd; go_simp; first | exact ⟨Ext.rf _, rfl⟩ | rfl)); (go_simp; refine hK _ ?_; clear hK K)
      refine walk_end (fun W hW hfin => ?_)
      clear hfin k0
      go_simp
      go_wp2
      go_ret
      exact ⟨rfl, E3.tr hW⟩
end Go.Proofs.YtoimoalkihjcfaaDoor
