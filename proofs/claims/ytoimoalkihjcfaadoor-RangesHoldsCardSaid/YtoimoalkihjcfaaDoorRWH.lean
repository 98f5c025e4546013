/-
  RangesHolds: the walk.
-/
import Derived.Test.YtoimoalkihjcfaaDoorRHl
namespace Go.Proofs.YtoimoalkihjcfaaDoor
open Go Go.RowKit

/-- a list of one list, in a block of its own -/
def IsBox (A : Option Addr) (n c : Nat) (v : Value) (W : World) : Prop := ∃ b, v = .slice (some ⟨b, 0, none⟩) 1 1 ∧ b < W.heap.size ∧ W.cell? ⟨b, 0, none⟩ = some (.slice A n c)
theorem IsBox.st {A : Option Addr} {n c : Nat} : ∀ v W W', IsBox A n c v W → Ext W W' → IsBox A n c v W' := fun _ _ _ ⟨b, e, h, k⟩ hb => ⟨b, e, Nat.lt_of_lt_of_le h hb.size, by rw [hb.cell (p := ⟨b, 0, none⟩) h]; exact k⟩
theorem IsBox.new (A : Option Addr) (n c : Nat) (W : World) : IsBox A n c (.slice (some ⟨W.heap.size, 0, none⟩) 1 1) (W.alloc (.cells #[.slice A n c] 22)) := ⟨W.heap.size, rfl, by simp, by simp⟩
theorem great_box {A : Option Addr} {n c : Nat} {v : Value} {W : World} {bb : Bool} (h : IsBox A n c v W) (hn : n ≤ maxLen) (hb : decide (20 < n) = bb) :
    Calls Tryd.prog 12 #[v] W fun e w' => e = .returned (.bool bb) ∧ Below W.heap.size W w' := by
  obtain ⟨b, rfl, _, hc⟩ := h
  subst hb
  exact (great1 b n c A W hc hn).mono fun _ _ ⟨he, hw⟩ => ⟨he, by subst hw; exact Below.refl _ _⟩
theorem Holds_set {W : World} {v : Value} {l : List Sp} (a b : Int) (h : IsSet W v l) (hm : l.length ≤ 1000000) :
    Calls Tryd.prog 36 #[v, .agg #[.int .i64 a, .int .i64 b]] W fun e w' => e = .returned (.bool (holdsB l a b)) ∧ Below W.heap.size W w' := by
  obtain ⟨A, n, c, rfl, HN, _, HS, HC⟩ := h.split
  exact Holds_any A n c l a b W HN.out (by have := HN.out; omega) HC.out HS.out

set_option maxHeartbeats 8000000 in
set_option maxRecDepth 100000 in
theorem walk_RangesHolds (A : Option Addr) (n c : Nat) (l : List Sp) (a b : Int) (w : World) (hn : l.length = n) (hmx : n ≤ maxLen) (hs : SpAt w w.heap.size A l) (_wa : (Lit.int .i64 a).wf = true) (_wb : (Lit.int .i64 b).wf = true) :
    Calls Tryd.prog 8 #[.slice A n c, .agg #[.int .i64 a, .int .i64 b]] w fun e w' => e = .returned (.bool true) ∧ Below w.heap.size w w' := by
  have HS := Lib.hid hs
  have HN := Lib.hid hn
  clear hs hn
  have a0 : Ext w (w.alloc (.cells #[.int .i64 a, .int .i64 b] 33)) := (Below.refl _ _).alloc (Nat.le_refl _) _
  by_cases hbig : 20 < n
  · have hgb : decide (20 < n) = true := by simpa using hbig
    go_enter Tryd.func8, Tryd.ntmps8
    go_wp2_with fail
    with_reducible refine (wakes_any _).mono ?_
    rintro e w1 ⟨rfl, hb1⟩
    have E1 := a0.tr hb1
    have hz1 : w.heap.size < w1.heap.size := (by have := hb1.size; simp at this; omega)
    have k0 : ∀ W, Ext w1 W → W.cell? ⟨w.heap.size, 0, none⟩ = some (.int .i64 a) := fun W h => by rw [h.cell (p := ⟨w.heap.size, 0, none⟩) hz1, hb1.cell (p := ⟨w.heap.size, 0, none⟩) (by simp)]; simp
    have k1 : ∀ W, Ext w1 W → W.cell? ⟨w.heap.size, 1, none⟩ = some (.int .i64 b) := fun W h => by rw [h.cell (p := ⟨w.heap.size, 1, none⟩) hz1, hb1.cell (p := ⟨w.heap.size, 1, none⟩) (by simp)]; simp
    clear hb1
    go_wp2_with fail
    refine' wp_region_made (rels := relsOf [.val _, .rel (fun v W => IsBox A n c v W), .val _, .val _, .val _, .val _, .val _, .val _, .val _, .val _, .val _, .val _, .val _, .val _, .val _]) (w := w1) 21 (by kernel_rfl) (by kernel_rfl) (by rfl) (relsOf_stable ?stp) ?wkp
    case stp => exact stable_val (stable_rel IsBox.st (stable_val (stable_val (stable_val (stable_val (stable_val (stable_val (stable_val (stable_val (stable_val (stable_val (stable_val (stable_val (stable_val (stable_nil)))))))))))))))
    case wkp =>
      refine' walk_val (by rfl) ?ap0 (fun K hK => ?bp0); (case ap0 => (intro W hW hd; clear hd; go_simp; first | exact ⟨Ext.rf _, rfl⟩ | rfl)); (go_simp; refine hK _ ?_; clear hK K)
      refine' walk_rel (by rfl) ?ap1 (fun vp1 K hK => ?bp1); (case ap1 => (intro W hW hd; go_simp; (clear hd; exact ⟨(Below.refl _ _).alloc (Nat.le_refl _) _, IsBox.new _ _ _ _⟩))); (go_simp; refine hK _ ?_; clear hK K)
      refine' walk_val (by rfl) ?ap2 (fun K hK => ?bp2); (case ap2 => (intro W hW hd; go_simp; (have hm := dep_rel hd ⟨1, .data⟩ 8 vp1 (by simp) (by rfl) (by rfl) (by rfl) (by rfl); clear hd; exact makes_val (great_box hm hmx hgb)))); (go_simp; refine hK _ ?_; clear hK K)
      refine' walk_val (by rfl) ?ap3 (fun K hK => ?bp3); (case ap3 => (intro W hW hd; clear hd; go_simp; first | exact ⟨Ext.rf _, rfl⟩ | rfl)); (go_simp; refine hK _ ?_; clear hK K)
      refine' walk_val (by rfl) ?ap4 (fun K hK => ?bp4); (case ap4 => (intro W hW hd; clear hd; go_simp; first | exact ⟨Ext.rf _, rfl⟩ | rfl)); (go_simp; refine hK _ ?_; clear hK K)
      refine' walk_val (by rfl) ?ap5 (fun K hK => ?bp5); (case ap5 => (intro W hW hd; clear hd; go_simp; first | exact ⟨Ext.rf _, rfl⟩ | rfl)); (go_simp; refine hK _ ?_; clear hK K)
      refine' walk_val (by rfl) ?ap6 (fun K hK => ?bp6); (case ap6 => (intro W hW hd; clear hd; go_simp; first | exact ⟨Ext.rf _, rfl⟩ | rfl)); (go_simp; refine hK _ ?_; clear hK K)
      refine' walk_val (by rfl) ?ap7 (fun K hK => ?bp7); (case ap7 => (intro W hW hd; clear hd; go_simp; first | exact ⟨Ext.rf _, rfl⟩ | rfl)); (go_simp; refine hK _ ?_; clear hK K)
      refine' walk_val (by rfl) ?ap8 (fun K hK => ?bp8); (case ap8 => (intro W hW hd; clear hd; go_simp; first | exact ⟨Ext.rf _, rfl⟩ | rfl)); (go_simp; refine hK _ ?_; clear hK K)
      refine' walk_val (by rfl) ?ap9 (fun K hK => ?bp9); (case ap9 => (intro W hW hd; clear hd; go_simp; first | exact ⟨Ext.rf _, rfl⟩ | rfl)); (go_simp; refine hK _ ?_; clear hK K)
      refine' walk_val (by rfl) ?ap10 (fun K hK => ?bp10); (case ap10 => (intro W hW hd; clear hd; go_simp; first | exact ⟨Ext.rf _, rfl⟩ | rfl)); (go_simp; refine hK _ ?_; clear hK K)
      refine' walk_val (by rfl) ?ap11 (fun K hK => ?bp11); (case ap11 => (intro W hW hd; clear hd; go_simp; first | exact ⟨Ext.rf _, rfl⟩ | rfl)); (go_simp; refine hK _ ?_; clear hK K)
      refine' walk_val (by rfl) ?ap12 (fun K hK => ?bp12); (case ap12 => (intro W hW hd; clear hd; go_simp; first | exact ⟨Ext.rf _, rfl⟩ | rfl)); (go_simp; refine hK _ ?_; clear hK K)
      refine' walk_val (by rfl) ?ap13 (fun K hK => ?bp13); (case ap13 => (intro W hW hd; clear hd; go_simp; first | exact ⟨Ext.rf _, rfl⟩ | rfl)); (go_simp; refine hK _ ?_; clear hK K)
      refine' walk_val (by rfl) ?ap14 (fun K hK => ?bp14); (case ap14 => (intro W hW hd; clear hd; go_simp; first | exact ⟨Ext.rf _, rfl⟩ | rfl)); (go_simp; refine hK _ ?_; clear hK K)
      refine walk_end (fun W hW hfin => ?_)
      clear hfin k0 k1
      go_simp
      go_wp2
      go_ret
      exact ⟨rfl, E1.tr hW⟩
  · have hgb : decide (20 < n) = false := by simpa using hbig
    have hn20 : n ≤ 20 := by omega
    have hnl : (normL l).length ≤ 100000 := by have := normL_len l; have := HN.out; omega
    obtain ⟨hv, HV⟩ : ∃ hv, Hid (holdsB (normL l) a b = hv) := ⟨_, rfl⟩
    have hold1 : ∀ {W : World} {v : Value}, IsSet W v (normL l) → Calls Tryd.prog 36 #[v, .agg #[.int .i64 a, .int .i64 b]] W fun e w' => e = .returned (.bool hv) ∧ Below W.heap.size W w' := fun {W v} h => by
      rw [← HV.out]; exact Holds_set a b h (by omega)
    have hold2 : ∀ {W : World} {v : Value}, IsSp W v (normL l) → Calls Tryd.prog 37 #[v, .agg #[.int .i64 a, .int .i64 b]] W fun e w' => e = .returned (.bool hv) ∧ Below W.heap.size W w' := fun {W v} h => by
      rw [← HV.out]; exact rHolds_set a b (normL_norm l).1 h (by omega)
    go_enter Tryd.func8, Tryd.ntmps8
    go_wp2_with fail
    with_reducible refine (wakes_any _).mono ?_
    rintro e w1 ⟨rfl, hb1⟩
    have E1 := a0.tr hb1
    have hz1 : w.heap.size < w1.heap.size := (by have := hb1.size; simp at this; omega)
    have k0 : ∀ W, Ext w1 W → W.cell? ⟨w.heap.size, 0, none⟩ = some (.int .i64 a) := fun W h => by rw [h.cell (p := ⟨w.heap.size, 0, none⟩) hz1, hb1.cell (p := ⟨w.heap.size, 0, none⟩) (by simp)]; simp
    have k1 : ∀ W, Ext w1 W → W.cell? ⟨w.heap.size, 1, none⟩ = some (.int .i64 b) := fun W h => by rw [h.cell (p := ⟨w.heap.size, 1, none⟩) hz1, hb1.cell (p := ⟨w.heap.size, 1, none⟩) (by simp)]; simp
    clear hb1
    go_wp2_with fail
    refine' wp_region_made (rels := relsOf [.val _, .rel (fun v W => IsBox A n c v W), .val _, .val _, .val _, .rel (fun v W => IsSet W v (normL l)), .val _, .val _, .val _, .rel (fun v W => IsSp W v (normL l)), .val _, .val _, .val _, .val _, .val _]) (w := w1) 21 (by kernel_rfl) (by kernel_rfl) (by rfl) (relsOf_stable ?stq) ?wkq
    case stq => exact stable_val (stable_rel IsBox.st (stable_val (stable_val (stable_val (stable_rel IsSet.st (stable_val (stable_val (stable_val (stable_rel IsSp.st (stable_val (stable_val (stable_val (stable_val (stable_val (stable_nil)))))))))))))))
    case wkq =>
      refine' walk_val (by rfl) ?aq0 (fun K hK => ?bq0); (case aq0 => (intro W hW hd; clear hd; go_simp; first | exact ⟨Ext.rf _, rfl⟩ | rfl)); (go_simp; refine hK _ ?_; clear hK K)
      refine' walk_rel (by rfl) ?aq1 (fun vq1 K hK => ?bq1); (case aq1 => (intro W hW hd; go_simp; (clear hd; exact ⟨(Below.refl _ _).alloc (Nat.le_refl _) _, IsBox.new _ _ _ _⟩))); (go_simp; refine hK _ ?_; clear hK K)
      refine' walk_val (by rfl) ?aq2 (fun K hK => ?bq2); (case aq2 => (intro W hW hd; go_simp; (have hm := dep_rel hd ⟨1, .data⟩ 8 vq1 (by simp) (by rfl) (by rfl) (by rfl) (by rfl); clear hd; exact makes_val (great_box hm hmx hgb)))); (go_simp; refine hK _ ?_; clear hK K)
      refine' walk_val (by rfl) ?aq3 (fun K hK => ?bq3); (case aq3 => (intro W hW hd; clear hd; go_simp; first | exact ⟨Ext.rf _, rfl⟩ | rfl)); (go_simp; refine hK _ ?_; clear hK K)
      refine' walk_val (by rfl) ?aq4 (fun K hK => ?bq4); (case aq4 => (intro W hW hd; clear hd; go_simp; first | exact ⟨Ext.rf _, rfl⟩ | rfl)); (go_simp; refine hK _ ?_; clear hK K)
      refine' walk_rel (by rfl) ?aq5 (fun vq5 K hK => ?bq5); (case aq5 => (intro W hW hd; go_simp; (clear hd; exact makes_rel (Of_set A n c l _ HN.out (by omega) (HS.out.below (E1.tr hW) (E1.tr hW).size))))); (go_simp; refine hK _ ?_; clear hK K)
      refine' walk_val (by rfl) ?aq6 (fun K hK => ?bq6); (case aq6 => (intro W hW hd; clear hd; go_simp; first | exact ⟨Ext.rf _, rfl⟩ | rfl)); (go_simp; refine hK _ ?_; clear hK K)
      refine' walk_val (by rfl) ?aq7 (fun K hK => ?bq7); (case aq7 => (intro W hW hd; go_simp; (have hm := dep_rel hd ⟨5, .data⟩ 12 vq5 (by simp) (by rfl) (by rfl) (by rfl) (by rfl); clear hd; exact makes_val (hold1 hm)))); (go_simp; refine hK _ ?_; clear hK K)
      refine' walk_val (by rfl) ?aq8 (fun K hK => ?bq8); (case aq8 => (intro W hW hd; clear hd; go_simp; first | exact ⟨Ext.rf _, rfl⟩ | rfl)); (go_simp; refine hK _ ?_; clear hK K)
      refine' walk_rel (by rfl) ?aq9 (fun vq9 K hK => ?bq9); (case aq9 => (intro W hW hd; go_simp; (clear hd; exact makes_rel (rOf_set A n c l _ HN.out (by omega) (HS.out.below (E1.tr hW) (E1.tr hW).size))))); (go_simp; refine hK _ ?_; clear hK K)
      refine' walk_val (by rfl) ?aq10 (fun K hK => ?bq10); (case aq10 => (intro W hW hd; clear hd; go_simp; first | exact ⟨Ext.rf _, rfl⟩ | rfl)); (go_simp; refine hK _ ?_; clear hK K)
      refine' walk_val (by rfl) ?aq11 (fun K hK => ?bq11); (case aq11 => (intro W hW hd; go_simp; (have hm := dep_rel hd ⟨9, .data⟩ 16 vq9 (by simp) (by rfl) (by rfl) (by rfl) (by rfl); clear hd; exact makes_val (hold2 hm)))); (go_simp; refine hK _ ?_; clear hK K)
      refine' walk_val (by rfl) ?aq12 (fun K hK => ?bq12); (case aq12 => (intro W hW hd; clear hd; go_simp; first | exact ⟨Ext.rf _, rfl⟩ | rfl)); (go_simp; refine hK _ ?_; clear hK K)
      refine' walk_val (by rfl) ?aq13 (fun K hK => ?bq13); (case aq13 => (intro W hW hd; clear hd; go_simp; first | exact ⟨Ext.rf _, rfl⟩ | rfl)); (go_simp; refine hK _ ?_; clear hK K)
      refine' walk_val (by rfl) ?aq14 (fun K hK => ?bq14); (case aq14 => (intro W hW hd; clear hd; go_simp; first | exact ⟨Ext.rf _, rfl⟩ | rfl)); (go_simp; refine hK _ ?_; clear hK K)
      refine walk_end (fun W hW hfin => ?_)
      clear hfin k0 k1
      go_simp
      go_wp2
      go_ret
      exact ⟨rfl, E1.tr hW⟩
end Go.Proofs.YtoimoalkihjcfaaDoor
