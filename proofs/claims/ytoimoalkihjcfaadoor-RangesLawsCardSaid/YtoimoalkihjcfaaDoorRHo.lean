/-
  Is all of a span in a set: the set's and the reference's Holds.
-/
import Derived.Test.YtoimoalkihjcfaaDoorRX
namespace Go.Proofs.YtoimoalkihjcfaaDoor
open Go Go.RowKit

def holdsB (l : List Sp) (a b : Int) : Bool := rtB a b && (decide (a = b) || l.any fun s => decide (s.1 ≤ a) && decide (b ≤ s.2))
theorem holds_iff {l : List Sp} (hc : Canon l) {a b : Int} (hr : rtB a b = true) : holdsB l a b = true ↔ ∀ p, InS (a, b) p → InL l p := by
  have h0 := rtB_t hr
  unfold holdsB
  rw [hr, Bool.true_and, Bool.or_eq_true, decide_eq_true_eq, List.any_eq_true]
  constructor
  · rintro (rfl | ⟨s, hs, k⟩) p hp
    · unfold InS at hp; simp only at hp; omega
    · simp only [Bool.and_eq_true, decide_eq_true_eq] at k
      have ss := hc.1 s hs
      refine ⟨s, hs, ?_⟩
      unfold Solid at ss; unfold InS at hp ⊢; simp only at hp; omega
  · intro h
    by_cases hab : a = b
    · exact .inl hab
    · right
      obtain ⟨s, hs, k⟩ := h a (by unfold InS; simp only; omega)
      refine ⟨s, hs, ?_⟩
      simp only [Bool.and_eq_true, decide_eq_true_eq]
      unfold InS at k
      refine ⟨k.2.1, ?_⟩
      refine Classical.byContradiction fun hlt => ?_
      obtain ⟨t, ht, k2⟩ := h s.2 (by unfold InS; simp only; omega)
      unfold InS at k2
      obtain ⟨i, hi, rfl⟩ := List.getElem_of_mem hs
      obtain ⟨j, hj, rfl⟩ := List.getElem_of_mem ht
      rcases Nat.lt_trichotomy i j with h1 | h1 | h1
      · have := hc.rise h1 hj; omega
      · subst h1; omega
      · have := hc.rise h1 hi; omega
theorem holds_at {l : List Sp} (hc : Canon l) {a b : Int} (hr : rtB a b = true) (hab : a ≠ b) {i : Nat} (hi : i < l.length) (h2 : ∀ j (h : j < l.length), j < i → l[j].2 ≤ a) (h3 : a < l[i].2) :
    holdsB l a b = withinB a b l[i].1 l[i].2 := by
  have h0 := rtB_t hr
  have hx := hc.at_ hi
  have e : withinB a b l[i].1 l[i].2 = (decide (l[i].1 ≤ a) && decide (b ≤ l[i].2)) := by
    unfold withinB
    rw [hr, rtB_mk (by omega), decide_eq_false hab]; simp
  rw [e]
  unfold holdsB
  rw [hr, decide_eq_false hab, Bool.true_and, Bool.false_or]
  have : (l.any fun s => decide (s.1 ≤ a) && decide (b ≤ s.2)) = true ↔ (decide (l[i].1 ≤ a) && decide (b ≤ l[i].2)) = true := by
    rw [List.any_eq_true]
    refine ⟨fun ⟨s, hs, k⟩ => ?_, fun k => ⟨_, List.getElem_mem hi, k⟩⟩
    simp only [Bool.and_eq_true, decide_eq_true_eq] at k ⊢
    obtain ⟨j, hj, rfl⟩ := List.getElem_of_mem hs
    rcases Nat.lt_trichotomy j i with h1 | h1 | h1
    · have := h2 j hj h1; omega
    · subst h1; exact k
    · have := hc.rise h1 hj; omega
  cases h5 : (l.any fun s => decide (s.1 ≤ a) && decide (b ≤ s.2)) <;> cases h6 : (decide (l[i].1 ≤ a) && decide (b ≤ l[i].2)) <;> simp_all
theorem holds_none {l : List Sp} {a b : Int} (hr : rtB a b = true) (hab : a ≠ b) (h2 : ∀ j (h : j < l.length), l[j].2 ≤ a) : holdsB l a b = false := by
  have h0 := rtB_t hr
  unfold holdsB
  rw [hr, decide_eq_false hab, Bool.true_and, Bool.false_or, List.any_eq_false]
  intro s hs
  obtain ⟨j, hj, rfl⟩ := List.getElem_of_mem hs
  have := h2 j hj
  simp only [Bool.and_eq_true, decide_eq_true_eq]
  omega

set_option maxHeartbeats 8000000 in
set_option maxRecDepth 100000 in
theorem Holds_any (A : Option Addr) (n c : Nat) (l : List Sp) (a b : Int) (w : World) (hn : l.length = n) (hbig : n ≤ 1000000) (hca : Canon l) (hs : SpAt w w.heap.size A l) :
    Calls Tryd.prog 36 #[.agg #[.slice A n c], .agg #[.int .i64 a, .int .i64 b]] w fun e w' => e = .returned (.bool (holdsB l a b)) ∧ Below w.heap.size w w' := by
  have HAF := fun W (hW : Ext w W) => after_any A n c l a W hn hbig hca (hs.below hW hW.size)
  have HS := Lib.hid hs
  have HN := Lib.hid hn
  have HCa := Lib.hid hca
  clear hs hn hca
  have a0 : Ext w ((w.alloc (.cells #[.slice A n c] 26)).alloc (.cells #[.int .i64 a, .int .i64 b] 33)) := ((Below.refl _ _).alloc (Nat.le_refl _) _).alloc (by simp) _
  cases hr : rtB a b with
  | false =>
    have HF : Hid (holdsB l a b = false) := by unfold Hid; simp [holdsB, hr]
    clear HAF
    go_enter Tryd.func36, Tryd.ntmps36
    go_wp2_with fail
    with_reducible refine (right_any a b _).mono ?_
    rintro e w1 ⟨rfl, hb1⟩
    obtain ⟨hc1, hf1⟩ := bcell hb1
    have hz1 : w.heap.size + 1 < w1.heap.size := (by have := hb1.size; simp at this; omega)
    have E1 := a0.tr hb1
    clear hb1
    go_wp2_with fail
    with_reducible refine (right_any a b _).mono ?_
    rintro e w2 ⟨rfl, hb2⟩
    go_wp2
    go_ret
    exact ⟨ret_bool (by rw [HF.out]), Ext.tr E1 hb2⟩
  | true =>
    by_cases hab : a = b
    · subst hab
      have HF : Hid (holdsB l a a = true) := by unfold Hid; simp [holdsB, hr]
      clear HAF
      go_enter Tryd.func36, Tryd.ntmps36
      go_wp2_with fail
      with_reducible refine (right_any a a _).mono ?_
      rintro e w1 ⟨rfl, hb1⟩
      obtain ⟨hc1, hf1⟩ := bcell hb1
      have hz1 : w.heap.size + 1 < w1.heap.size := (by have := hb1.size; simp at this; omega)
      have E1 := a0.tr hb1
      clear hb1
      go_wp2_with fail
      with_reducible refine (right_any a a _).mono ?_
      rintro e w2 ⟨rfl, hb2⟩
      go_wp2
      go_ret
      exact ⟨ret_bool (by rw [HF.out]), Ext.tr E1 hb2⟩
    · have hab' : (a == b) = false := by simpa using hab
      have HAB := Lib.hid hab
      go_enter Tryd.func36, Tryd.ntmps36
      go_wp2_with fail
      with_reducible refine (right_any a b _).mono ?_
      rintro e w1 ⟨rfl, hb1⟩
      obtain ⟨hc1, hf1⟩ := bcell hb1
      have hz1 : w.heap.size < w1.heap.size ∧ w.heap.size + 1 < w1.heap.size := (by have := hb1.size; simp at this; omega)
      have E1 := a0.tr hb1
      clear hb1
      go_wp2_with fail
      with_reducible refine (HAF _ E1).mono ?_
      rintro e w2 ⟨i, rfl, hi, h2, h3, hb2⟩
      have hz2 : w.heap.size < w2.heap.size ∧ w.heap.size + 1 < w2.heap.size := (by have := hb2.size; omega)
      have E2 := E1.tr hb2
      have x0 : w2.cell? ⟨w.heap.size, 0, none⟩ = some (.slice A n c) := by rw [hb2.cell (p := ⟨w.heap.size, 0, none⟩) hz1.1, hc1 _ _ (by simp only [World.size_alloc]; omega)]; simp
      have y0 : w2.cell? ⟨w.heap.size + 1, 0, none⟩ = some (.int .i64 a) := by rw [hb2.cell (p := ⟨w.heap.size + 1, 0, none⟩) hz1.2, hc1 _ _ (by simp only [World.size_alloc]; omega)]; simp
      have y1 : w2.cell? ⟨w.heap.size + 1, 1, none⟩ = some (.int .i64 b) := by rw [hb2.cell (p := ⟨w.heap.size + 1, 1, none⟩) hz1.2, hc1 _ _ (by simp only [World.size_alloc]; omega)]; simp
      have H2 := Lib.hid h2; have H3 := Lib.hid h3
      clear h2 h3 hb2 HAF hc1 hf1 hz1 E1 a0
      by_cases hlt : i < n
      · have hil : i < l.length := by have := HN.out; omega
        obtain ⟨bb, o, rfl, hbb, hc⟩ := (HS.out.below E2 (Nat.le_refl _)) (by omega)
        obtain ⟨c0, c1⟩ := hc i hil
        clear hc
        have HF := Lib.hid (holds_at HCa.out hr HAB.out hil H2.out (H3.out i hil (Nat.le_refl _)))
        generalize l[i] = X at *
        obtain ⟨x, y⟩ := X
        simp only at HF c0 c1
        have hbz : bb < w2.heap.size := Nat.lt_of_lt_of_le hbb E2.size
        have k0 : ∀ W, Ext w2 W → W.cell? ⟨w.heap.size, 0, none⟩ = some (.slice (some ⟨bb, o, none⟩) n c) := fun W h => by rw [h.cell (p := ⟨w.heap.size, 0, none⟩) hz2.1]; exact x0
        have k1 : ∀ W, Ext w2 W → W.cell? ⟨w.heap.size + 1, 0, none⟩ = some (.int .i64 a) := fun W h => by rw [h.cell (p := ⟨w.heap.size + 1, 0, none⟩) hz2.2]; exact y0
        have k2 : ∀ W, Ext w2 W → W.cell? ⟨w.heap.size + 1, 1, none⟩ = some (.int .i64 b) := fun W h => by rw [h.cell (p := ⟨w.heap.size + 1, 1, none⟩) hz2.2]; exact y1
        have k3 : ∀ W, Ext w2 W → W.cell? ⟨bb, o + i * 2, none⟩ = some (.int .i64 x) := fun W h => by rw [h.cell (p := ⟨bb, o + i * 2, none⟩) hbz]; exact c0
        have k4 : ∀ W, Ext w2 W → W.cell? ⟨bb, o + i * 2 + 1, none⟩ = some (.int .i64 y) := fun W h => by rw [h.cell (p := ⟨bb, o + i * 2 + 1, none⟩) hbz]; exact c1
        have cW : ∀ W, Ext w2 W → Calls Tryd.prog 57 #[.agg #[.int .i64 a, .int .i64 b], .agg #[.int .i64 x, .int .i64 y]] W fun e w' => e = .returned (.bool (holdsB l a b)) ∧ Below W.heap.size W w' := fun W _ => by rw [HF.out]; exact within_any a b x y W
        obtain ⟨hv, HV⟩ : ∃ hv, Hid (holdsB l a b = hv) := ⟨_, rfl⟩
        rw [HV.out] at cW
        clear x0 y0 y1 c0 c1 HF
        go_wp2_with fail
        refine' wp_region_made (rels := relsOf [.val _, .val _, .val _, .val _, .val _, .val _, .val _, .val _, .val _, .val _, .val _, .val _, .val _, .val _, .val _]) (w := w2) 36 (by kernel_rfl) (by kernel_rfl) (by rfl) (relsOf_stable ?st) ?wk
        case st => exact stable_val (stable_val (stable_val (stable_val (stable_val (stable_val (stable_val (stable_val (stable_val (stable_val (stable_val (stable_val (stable_val (stable_val (stable_val (stable_nil)))))))))))))))
        case wk =>
          refine' walk_val (by rfl) ?a0 (fun K hK => ?b0); (case a0 => (intro W hW hd; clear hd; go_simp; exact ⟨Ext.rf _, rfl⟩)); (go_simp; refine hK _ ?_; clear hK K)
          refine' walk_val (by rfl) ?a1 (fun K hK => ?b1); (case a1 => (intro W hW hd; clear hd; go_simp; exact ⟨Ext.rf _, rfl⟩)); (go_simp; refine hK _ ?_; clear hK K)
          refine' walk_val (by rfl) ?a2 (fun K hK => ?b2); (case a2 => (intro W hW hd; clear hd; go_simp; exact ⟨Ext.rf _, rfl⟩)); (go_simp; refine hK _ ?_; clear hK K)
          refine' walk_val (by rfl) ?a3 (fun K hK => ?b3); (case a3 => (intro W hW hd; clear hd; go_simp; exact ⟨Ext.rf _, rfl⟩)); (go_simp; refine hK _ ?_; clear hK K)
          refine' walk_val (by rfl) ?a4 (fun K hK => ?b4); (case a4 => (intro W hW hd; clear hd; go_simp; exact ⟨Ext.rf _, rfl⟩)); (go_simp; refine hK _ ?_; clear hK K)
          refine' walk_val (by rfl) ?a5 (fun K hK => ?b5); (case a5 => (intro W hW hd; clear hd; go_simp; exact ⟨Ext.rf _, rfl⟩)); (go_simp; refine hK _ ?_; clear hK K)
          refine' walk_val (by rfl) ?a6 (fun K hK => ?b6); (case a6 => (intro W hW hd; clear hd; go_simp; exact ⟨Ext.rf _, rfl⟩)); (go_simp; refine hK _ ?_; clear hK K)
          refine' walk_val (by rfl) ?a7 (fun K hK => ?b7); (case a7 => (intro W hW hd; clear hd; go_simp; exact ⟨Ext.rf _, rfl⟩)); (go_simp; refine hK _ ?_; clear hK K)
          refine' walk_val (by rfl) ?a8 (fun K hK => ?b8); (case a8 => (intro W hW hd; clear hd; go_simp; exact ⟨Ext.rf _, rfl⟩)); (go_simp; refine hK _ ?_; clear hK K)
          refine' walk_val (by rfl) ?a9 (fun K hK => ?b9); (case a9 => (intro W hW hd; clear hd; go_simp; exact ⟨Ext.rf _, rfl⟩)); (go_simp; refine hK _ ?_; clear hK K)
          refine' walk_val (by rfl) ?a10 (fun K hK => ?b10); (case a10 => (intro W hW hd; clear hd; go_simp; exact ⟨Ext.rf _, rfl⟩)); (go_simp; refine hK _ ?_; clear hK K)
          refine' walk_val (by rfl) ?a11 (fun K hK => ?b11); (case a11 => (intro W hW hd; clear hd; go_simp; exact ⟨Ext.rf _, rfl⟩)); (go_simp; refine hK _ ?_; clear hK K)
          refine' walk_val (by rfl) ?a12 (fun K hK => ?b12); (case a12 => (intro W hW hd; go_simp; (clear hd; exact makes_val (cW W hW)))); (go_simp; refine hK _ ?_; clear hK K)
          refine' walk_val (by rfl) ?a13 (fun K hK => ?b13); (case a13 => (intro W hW hd; clear hd; go_simp; exact ⟨Ext.rf _, rfl⟩)); (go_simp; refine hK _ ?_; clear hK K)
          refine' walk_val (by rfl) ?a14 (fun K hK => ?b14); (case a14 => (intro W hW hd; clear hd; go_simp; exact ⟨Ext.rf _, rfl⟩)); (go_simp; refine hK _ ?_; clear hK K)
          refine walk_end (fun W hW hfin => ?_)
          clear hfin k0 k1 k2 k3 k4 cW
          go_simp
          go_wp2
          go_ret
          exact ⟨ret_bool HV.out.symm, E2.tr hW⟩
      · have HF : Hid (holdsB l a b = false) := holds_none hr HAB.out fun j hj => H2.out j hj (by have := HN.out; omega)
        have hd : decide (i < n) = false := by simpa using hlt
        have hd2 : decide ((i : Int) < (n : Int)) = false := by simpa using (by omega : ¬ (i : Int) < n)
        go_wp2_with fail
        go_quiet (fail)
        go_wp2
        go_ret
        exact ⟨ret_bool HF.out.symm, below_drewN E2 _⟩
end Go.Proofs.YtoimoalkihjcfaaDoor
