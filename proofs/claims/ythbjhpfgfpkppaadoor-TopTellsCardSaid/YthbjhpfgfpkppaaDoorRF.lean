/-
  ranges.closed: neighbours with short gaps made one.
-/
import Derived.StillTailTactics
import Derived.Test.YthbjhpfgfpkppaaDoorRD
namespace Go.Proofs.YthbjhpfgfpkppaaDoor.Rg
open Go Go.RowKit

def Bnd (l : List Sp) : Prop := ∀ x ∈ l, 0 ≤ x.1 ∧ x.1 ≤ 4611686018427387904 ∧ 0 ≤ x.2 ∧ x.2 ≤ 4611686018427387904
theorem closeFrom_bnd (g : Int) : ∀ (c : Sp) (r : List Sp), Bnd (c :: r) → Bnd (closeFrom g c r)
  | c, [], h => by simpa [closeFrom] using h
  | c, x :: r, h => by
    have hc := h c (List.mem_cons_self ..)
    have hx := h x (List.mem_cons_of_mem _ (List.mem_cons_self ..))
    simp only [closeFrom]
    split
    · refine closeFrom_bnd g _ r fun y hy => ?_
      rcases List.mem_cons.1 hy with rfl | hy
      · simp only; omega
      · exact h y (List.mem_cons_of_mem _ (List.mem_cons_of_mem _ hy))
    · intro y hy
      rcases List.mem_cons.1 hy with rfl | hy
      · exact hc
      · exact closeFrom_bnd g x r (fun z hz => h z (List.mem_cons_of_mem _ hz)) y hy
theorem closeL_bnd (g : Int) {l : List Sp} (h : Bnd l) : Bnd (closeL g l) := by
  cases l with
  | nil => exact h
  | cons c r => exact closeFrom_bnd g c r h
theorem Bnd.take {l : List Sp} (h : Bnd l) (k : Nat) : Bnd (l.take k) := fun x hx => h x (List.mem_of_mem_take hx)
theorem Canon.bnd {l : List Sp} (h : Canon l) : Bnd l := fun x hx => by have := h.1 x hx; unfold Solid at this; omega
theorem close_at (g : Int) {l : List Sp} {k : Nat} (hk : k < l.length) {acc : List Sp} (ha : acc = closeL g (l.take k)) :
    (acc = [] ∧ closeL g (l.take (k + 1)) = [l[k]]) ∨ ∃ init y, acc = init ++ [y] ∧ closeL g (l.take (k + 1)) = if l[k].1 - y.2 ≤ g then init ++ [(y.1, max y.2 l[k].2)] else init ++ [y, l[k]] := by
  rw [List.take_succ_eq_append_getElem hk]
  rcases closeL_snoc g l[k] (l.take k) with ⟨_, h1, h2⟩ | ⟨init, y, h1, h2⟩
  · exact .inl ⟨by rw [ha, h1], h2⟩
  · exact .inr ⟨init, y, by rw [ha, h1], h2⟩
theorem own_raw {w : World} {base n : Nat} {v : Value} {l : List Sp} (hn : l.length = n) (h : OwnS w base v l) : w.ownsRow base 31 2 v n (flat l) := by subst hn; exact h
theorem flat_set {init : List Sp} {z1 z2 y : Int} {ml : Nat} (h : init.length = ml) : (flat (init ++ [(z1, z2)])).set (ml * 2 + 1) (.int .i64 y) = flat (init ++ [(z1, y)]) := by
  subst h
  rw [flat_append, flat_append, List.set_append_right _ _ (by rw [flat_len]; omega), flat_len, show init.length * 2 + 1 - init.length * 2 = 1 by omega]
  rfl
theorem own_set {w : World} {base g cap ml : Nat} {init : List Sp} {z1 z2 y : Int} (hn : init.length = ml) (h : OwnS w base (.slice (some ⟨g, 0, none⟩) (ml + 1) cap) (init ++ [(z1, z2)])) :
    OwnS (w.setCell ⟨g, ml * 2 + 1, none⟩ (.int .i64 y)) base (.slice (some ⟨g, 0, none⟩) (ml + 1) cap) (init ++ [(z1, y)]) := by
  have e1 : (init ++ [(z1, z2)]).length = ml + 1 := by simp [hn]
  have e2 : (init ++ [(z1, y)]).length = ml + 1 := by simp [hn]
  unfold OwnS at h ⊢
  rw [e1] at h
  rw [e2, ← flat_set hn]
  exact (World.ownsRow.stored h _ _).1
theorem Below.own {w W : World} {base : Nat} {v : Value} {l : List Sp} (h : OwnS w base v l) (hb : Ext w W) : OwnS W base v l :=
  World.ownsRow.kept (row := none) h ⟨hb.os, hb.tape, hb.output, hb.size, fun k hk _ => hb.block k hk⟩ (by
    cases hv : v.ownBlock with
    | none => exact .inl rfl
    | some g => exact .inr (by simp))

set_option maxHeartbeats 16000000 in
set_option maxRecDepth 100000 in
theorem closed_any (g : Int) (A : Option Addr) (c : Nat) (l : List Sp) (w : World) (hm : l.length ≤ 1000000) (hb : Bnd l) (hs : SpAt w w.heap.size A l) :
    Calls Tryd.prog 21 #[.slice A l.length c, .int .i64 g] w fun e w' => ∃ v, e = .returned v ∧ OwnS w' w.heap.size v (closeL g l) ∧ Below w.heap.size w w' := by
  have HS := Lib.hid hs
  have HB := Lib.hid hb
  clear hs hb
  obtain ⟨n, HL⟩ : ∃ n, Hid (l.length = n) := ⟨_, rfl⟩
  have hn : n ≤ 1000000 := by have := HL.out; omega
  rw [show l.length = n from HL.out]
  clear hm
  go_enter Tryd.func21, Tryd.ntmps21
  go_wp2
  go_loopw [5, 11] (fun v i wr => ∃ (k : Nat) (acc : List Sp), k ≤ n ∧ i = .int .i64 k ∧ OwnS wr w.heap.size v acc ∧ acc.length ≤ k ∧ Hid (acc = closeL g (l.take k)) ∧ Below w.heap.size w wr) (fun _ i _ => n - (intOf i).toNat)
  case atStart => exact ⟨0, [], Nat.zero_le _, rfl, World.ownsRow_nil _ _ _ _, by simp, rfl, Below.refl _ _⟩
  case round =>
    obtain ⟨k, acc, hk, rfl, hown, hal, HG, hbel⟩ := hrel
    by_cases hlt : k < n
    · have hkl : k < l.length := by have := HL.out; omega
      obtain ⟨b, o, rfl, hbb, hc⟩ := (HS.out.below hbel (Nat.le_refl _)) (by omega)
      obtain ⟨c0, c1⟩ := hc k hkl
      clear hc
      have hbx := HB.out l[k] (List.getElem_mem hkl)
      have HT := Lib.hid (close_at g hkl HG.out)
      have hab : Bnd acc := by rw [HG.out]; exact closeL_bnd g (HB.out.take k)
      have HAB := Lib.hid hab
      clear hab
      generalize l[k] = X at *
      obtain ⟨x, y⟩ := X
      have hbz : b < wr.heap.size := by have := hbel.size; omega
      obtain ⟨Av, nv, cv, rfl, HLv, hcv, -⟩ := (IsSp.own hown).split
      rcases HT.out with ⟨rfl, ht⟩ | ⟨init, ⟨z1, z2⟩, rfl, ht⟩
      · have HF : Hid ([] ++ [(x, y)] = closeL g (l.take (k + 1))) := by unfold Hid; rw [ht]; rfl
        clear HT ht HG
        obtain rfl : nv = 0 := by simpa using HLv.out.symm
        clear HLv
        go_wp2_with fail
        go_quiet (fail)
        have e1 : Ext wr (wr.alloc (.cells #[.int .i64 x, .int .i64 y] 31)) := (Below.refl _ _).alloc (Nat.le_refl _) _
        have e2 := below_drewN e1 nq
        have d0 : ((wr.alloc (.cells #[.int .i64 x, .int .i64 y] 31)).drewN nq).cell? ⟨wr.heap.size, 0, none⟩ = some (.int .i64 x) := by simp
        have d1 : ((wr.alloc (.cells #[.int .i64 x, .int .i64 y] 31)).drewN nq).cell? ⟨wr.heap.size, 1, none⟩ = some (.int .i64 y) := by simp
        have dz : wr.heap.size < ((wr.alloc (.cells #[.int .i64 x, .int .i64 y] 31)).drewN nq).heap.size := by simp
        generalize (wr.alloc (.cells #[.int .i64 x, .int .i64 y] 31)).drewN nq = W2 at *
        clear e1
        have B2 : Below w.heap.size w W2 := hbel.trans (e2.mono hbel.size)
        have own2 := Below.own hown e2
        clear hown hbel e2 c0 c1
        go_wp2_with (at_builtin; refine app_span W2 (by rfl) _ _ (by rfl) w.heap.size _ [] x y (by rfl) own2 (by rfl) (by omega) B2.size ?_; intro v3 w3 hown3 hgrow; have B3 : Below w.heap.size w w3 := below_app B2 B2.size own2 hgrow; clear hgrow)
        go_roundw
        case rel => exact ⟨k + 1, [] ++ [(x, y)], by omega, by go_num, hown3, by simp, HF, B3⟩
        case measure => simp [intOf]; omega
      · obtain ⟨gb, hgb, hgl, hav⟩ : ∃ gb, w.heap.size ≤ gb ∧ gb < wr.heap.size ∧ Av = some ⟨gb, 0, none⟩ := by
          obtain ⟨g', cap, e, h1, h2⟩ := World.ownsRow.form hown (by simp)
          injection e with e _ _
          exact ⟨g', h1, h2, e⟩
        subst hav
        have hil : init.length + 1 = nv := by have := HLv.out; simpa using this
        obtain ⟨ml, rfl⟩ : ∃ ml, nv = ml + 1 := ⟨init.length, hil.symm⟩
        have HIL : Hid (init.length = ml) := by unfold Hid; omega
        clear hil
        have o1 := own_raw (n := ml + 1) (by simp [HIL.out]) hown
        have hcz : wr.cell? ⟨gb, ml * 2 + 1, none⟩ = some (.int .i64 z2) := by rw [World.ownsRow.cellAt o1 _ (by omega), ← HIL.out]; simpa using flat_get1 (init ++ [(z1, z2)]) init.length (by simp)
        clear o1
        have hzb := HAB.out (z1, z2) (by simp)
        simp only at hzb hbx ht
        have hal' : ml + 1 ≤ k := by have := HIL.out; simp at hal; omega
        clear hal
        clear HLv HT
        have HO := Lib.hid hown
        clear hown
        by_cases hgap : x - z2 ≤ g
        · have HF : Hid (init ++ [(z1, max z2 y)] = closeL g (l.take (k + 1))) := by unfold Hid; rw [ht, if_pos hgap]
          clear ht HG
          go_wp2_with fail
          go_quiet (fail)
          have hown := HO.out
          clear HO
          have e1 : Ext wr (wr.alloc (.cells #[.int .i64 x, .int .i64 y] 31)) := (Below.refl _ _).alloc (Nat.le_refl _) _
          have e2 := below_drewN e1 nq
          have d0 : ((wr.alloc (.cells #[.int .i64 x, .int .i64 y] 31)).drewN nq).cell? ⟨wr.heap.size, 0, none⟩ = some (.int .i64 x) := by simp
          have d1 : ((wr.alloc (.cells #[.int .i64 x, .int .i64 y] 31)).drewN nq).cell? ⟨wr.heap.size, 1, none⟩ = some (.int .i64 y) := by simp
          have dz : wr.heap.size < ((wr.alloc (.cells #[.int .i64 x, .int .i64 y] 31)).drewN nq).heap.size := by simp
          generalize (wr.alloc (.cells #[.int .i64 x, .int .i64 y] 31)).drewN nq = W2 at *
          clear e1
          have B2 : Below w.heap.size w W2 := hbel.trans (e2.mono hbel.size)
          have own2 := Below.own hown e2
          have o2 := own_raw (n := ml + 1) (by simp [HIL.out]) own2
          have x2 : W2.cell? ⟨gb, ml * 2 + 1, none⟩ = some (.int .i64 z2) := by rw [World.ownsRow.cellAt o2 _ (by omega), ← HIL.out]; simpa using flat_get1 (init ++ [(z1, z2)]) init.length (by simp)
          have x3 := World.ownsRow.frozenAt o2 (ml * 2 + 1)
          have HST := Lib.hid (own_set HIL.out own2 (y := max z2 y))
          have HB3 : Hid (Below w.heap.size w (W2.setCell ⟨gb, ml * 2 + 1, none⟩ (.int .i64 (max z2 y)))) := B2.setCell hgb _
          clear own2 o2 hown hbel hcz e2 c0 c1
          go_wp2_with fail
          have q1 : ml < ml + 1 := Nat.lt_succ_self _
          have q2 : (ml : Int) < (ml : Int) + 1 := by omega
          have q3 : (0 : Int) ≤ (ml : Int) := by omega
          have q4 : (ml : Int) < ((ml + 1 : Nat) : Int) := by omega
          go_still_tail 12, (by kernel_rfl)
          change wpList _ _ _ _ _ W2.drew
          have HST2 : Hid (OwnS (W2.setCell ⟨gb, ml * 2 + 1, none⟩ (.int .i64 (max z2 y))).drew w.heap.size (.slice (some ⟨gb, 0, none⟩) (ml + 1) cv) (init ++ [(z1, max z2 y)])) := HST.out
          have HB4 : Hid (Below w.heap.size w (W2.setCell ⟨gb, ml * 2 + 1, none⟩ (.int .i64 (max z2 y))).drew) := HB3.out.drew
          have HMX : Hid ((if z2 < y then y else z2) = max z2 y) := by unfold Hid; split <;> omega
          clear HST HB3
          go_wp2
          all_goals
            go_roundw
            case rel => exact ⟨k + 1, init ++ [(z1, max z2 y)], by omega, by go_num, by rw [HMX.out]; exact HST2.out, by have := HIL.out; simp; omega, HF, by rw [HMX.out]; exact HB4.out⟩
            case measure => simp [intOf]; omega
        · have HF : Hid ((init ++ [(z1, z2)]) ++ [(x, y)] = closeL g (l.take (k + 1))) := by unfold Hid; rw [ht, if_neg hgap]; simp
          clear ht HG
          go_wp2_with fail
          go_quiet (fail)
          have hown := HO.out
          clear HO
          have e1 : Ext wr (wr.alloc (.cells #[.int .i64 x, .int .i64 y] 31)) := (Below.refl _ _).alloc (Nat.le_refl _) _
          have e2 := below_drewN e1 nq
          have d0 : ((wr.alloc (.cells #[.int .i64 x, .int .i64 y] 31)).drewN nq).cell? ⟨wr.heap.size, 0, none⟩ = some (.int .i64 x) := by simp
          have d1 : ((wr.alloc (.cells #[.int .i64 x, .int .i64 y] 31)).drewN nq).cell? ⟨wr.heap.size, 1, none⟩ = some (.int .i64 y) := by simp
          have dz : wr.heap.size < ((wr.alloc (.cells #[.int .i64 x, .int .i64 y] 31)).drewN nq).heap.size := by simp
          generalize (wr.alloc (.cells #[.int .i64 x, .int .i64 y] 31)).drewN nq = W2 at *
          clear e1
          have B2 : Below w.heap.size w W2 := hbel.trans (e2.mono hbel.size)
          have own2 := Below.own hown e2
          clear hown hbel e2 c0 c1 hcz
          go_wp2_with (at_builtin; refine app_span W2 (by rfl) _ _ (by rfl) w.heap.size _ (init ++ [(z1, z2)]) x y (by rfl) own2 (by rfl) (by have := HIL.out; simp; omega) B2.size ?_; intro v3 w3 hown3 hgrow; have B3 : Below w.heap.size w w3 := below_app B2 B2.size own2 hgrow; clear hgrow)
          go_roundw
          case rel => exact ⟨k + 1, (init ++ [(z1, z2)]) ++ [(x, y)], by omega, by go_num, hown3, by have := HIL.out; simp; omega, HF, B3⟩
          case measure => simp [intOf]; omega
    · obtain rfl : k = n := by omega
      have HF : Hid (acc = closeL g l) := by have := HG.out; rwa [List.take_of_length_le (by have := HL.out; omega)] at this
      have HO := Lib.hid hown
      clear HG hown
      go_wp2
      go_ret
      exact ⟨_, rfl, by rw [← HF.out]; exact HO.out, hbel⟩
end Go.Proofs.YthbjhpfgfpkppaaDoor.Rg
