/-
  The reference's Of: the spans of which a value is told, or any.
-/
import Derived.StillTailTactics
import Derived.Test.YtlnfpolhccbnpaaS1
import Derived.Test.YtlnfpolhccbnpaaK4
namespace Go.Proofs.Ytlnfpolhccbnpaa
open Go Go.RowKit

/-- the runs asked for, as spans -/
def selB (all : Bool) (v : Int) (r : Rn) : Bool := all || decide (r.2.2 = v)
def spS (all : Bool) (v : Int) (l : List Rn) : List Sp := spK (l.filter (selB all v))
theorem spS_all (v : Int) (l : List Rn) : spS true v l = spK l := by unfold spS; rw [List.filter_eq_self.2 (fun r _ => by simp [selB])]
theorem spS_one (v : Int) (l : List Rn) : spS false v l = spV v l := by unfold spS spV selB; simp
theorem spS_len (all : Bool) (v : Int) (l : List Rn) : (spS all v l).length ≤ l.length := by unfold spS spK; rw [List.length_map]; exact List.length_filter_le _ _
theorem spS_take {all : Bool} {v : Int} {l : List Rn} {k : Nat} (h : k < l.length) : spS all v (l.take (k + 1)) = spS all v (l.take k) ++ if selB all v l[k] then [(l[k].1, l[k].2.1)] else [] := by
  rw [List.take_succ_eq_append_getElem h]
  unfold spS spK
  rw [List.filter_append, List.map_append]
  congr 1
  by_cases hx : selB all v l[k] = true
  · simp [hx]
  · simp [hx]
theorem closeFrom_le (g : Int) {X : Int} : ∀ (c : Sp) (r : List Sp), (∀ s ∈ c :: r, s.2 ≤ X) → ∀ s ∈ closeFrom g c r, s.2 ≤ X
  | c, [], h => by simpa [closeFrom] using h
  | c, x :: r, h => by
    have hc := h c (List.mem_cons_self ..)
    have hx := h x (List.mem_cons_of_mem _ (List.mem_cons_self ..))
    simp only [closeFrom]
    split
    · refine closeFrom_le g _ r fun y hy => ?_
      rcases List.mem_cons.1 hy with rfl | hy
      · simp only; omega
      · exact h y (List.mem_cons_of_mem _ (List.mem_cons_of_mem _ hy))
    · intro y hy
      rcases List.mem_cons.1 hy with rfl | hy
      · exact hc
      · exact closeFrom_le g x r (fun z hz => h z (List.mem_cons_of_mem _ hz)) y hy
theorem closeL_le (g : Int) {X : Int} {l : List Sp} (h : ∀ s ∈ l, s.2 ≤ X) : ∀ s ∈ closeL g l, s.2 ≤ X := by
  cases l with
  | nil => intro s hs; cases hs
  | cons c r => exact closeFrom_le g c r h
theorem spS_rise {all : Bool} {v : Int} {l : List Rn} (hg : Good 0 Option.none l) {k : Nat} (hk : k < l.length) : ∀ s ∈ spS all v (l.take k), s.2 ≤ l[k].1 := fun s hs => by
  obtain ⟨r, hr, rfl⟩ := List.mem_map.1 hs
  have hr' := (List.mem_filter.1 hr).1
  obtain ⟨i, hi, rfl⟩ := List.mem_iff_getElem.1 hr'
  have hi' : i < k := by rw [List.length_take] at hi; omega
  simp only [List.getElem_take]
  exact List.pairwise_iff_getElem.1 (good_rise hg) i k (by omega) hk hi'
theorem sel_step (all : Bool) (v : Int) {l : List Rn} (hg : Good 0 Option.none l) {k : Nat} (hk : k < l.length) :
    (closeL 0 (spS all v (l.take k)) = [] ∧ closeL 0 (spS all v (l.take k) ++ [(l[k].1, l[k].2.1)]) = [(l[k].1, l[k].2.1)]) ∨
    ∃ init z, closeL 0 (spS all v (l.take k)) = init ++ [z] ∧ z.2 ≤ l[k].1 ∧ closeL 0 (spS all v (l.take k) ++ [(l[k].1, l[k].2.1)]) = if z.2 = l[k].1 then init ++ [(z.1, l[k].2.1)] else init ++ [z, (l[k].1, l[k].2.1)] := by
  have hlt := (good_mem hg l[k] (List.getElem_mem hk)).2.1
  rcases closeL_snoc 0 (l[k].1, l[k].2.1) (spS all v (l.take k)) with ⟨_, h1, h2⟩ | ⟨init, z, h1, h2⟩
  · exact .inl ⟨h1, h2⟩
  · have hz : z.2 ≤ l[k].1 := closeL_le 0 (spS_rise hg hk) z (by rw [h1]; simp)
    refine .inr ⟨init, z, h1, hz, ?_⟩
    rw [h2]
    by_cases he : z.2 = l[k].1
    · rw [if_pos he, if_pos (by simp only; omega), show max z.2 (l[k].1, l[k].2.1).2 = l[k].2.1 from by simp only; omega]
    · rw [if_neg he, if_neg (by simp only; omega)]

set_option maxHeartbeats 16000000 in
set_option maxRecDepth 100000 in
theorem rOf_any (A : Option Addr) (n c : Nat) (l : List Ac) (v : Int) (all : Bool) (w : World) (hn : l.length = n) (hm : n ≤ 1000) (hs : AcAt w w.heap.size A l) :
    Calls Try.prog 24 #[.slice A n c, .int .i64 v, .bool all] w fun e w' => ∃ u, e = .returned u ∧ Rg.IsSp w' u (closeL 0 (spS all v (actsI [] l))) ∧ Ext w w' := by
  have HRu := Lib.hid (runs_any A n c l w hn hm hs)
  have hlen := actsI_len l (D := []) trivial
  simp only [List.length_nil, Nat.zero_add] at hlen
  have HG := Lib.hid (actsI_good l (D := []) trivial)
  have HN := Lib.hid hn
  clear hs hn
  generalize actsI [] l = D at *
  go_enter Try.func24, Try.ntmps24
  go_wp2_with (go_at_call 13; refine HRu.out.mono ?_; rintro e w2 ⟨u, rfl, hown0, F2⟩; obtain ⟨A2, n2, c2, rfl⟩ := own_slice hown0; have HO := Lib.hid (RnAt.ownQ hown0).2; have hn2 := (RnAt.ownQ hown0).1; clear hown0)
  have hwz := F2.size
  have hn2b : n2 ≤ 2000 := by have := HN.out; omega
  go_loopw [7, 14] (fun u i wr => ∃ k : Nat, k ≤ n2 ∧ i = .int .i64 k ∧ Rg.OwnS wr w2.heap.size u (closeL 0 (spS all v (D.take k))) ∧ Below w2.heap.size w2 wr) (fun _ i _ => n2 - (intOf i).toNat)
  case atStart => exact ⟨0, Nat.zero_le _, rfl, World.ownsRow_nil _ _ _ _, Below.refl _ _⟩
  case round =>
    obtain ⟨k, hk, rfl, hown, hbel⟩ := hrel
    by_cases hlt : k < n2
    · have hkl : k < D.length := by omega
      obtain ⟨be, oe, rfl, hbe, hc⟩ := (HO.out.below hbel (Nat.le_refl _)) (by omega)
      obtain ⟨c0, c1, c2'⟩ := hc k hkl
      clear hc
      have hT := spS_take (all := all) (v := v) hkl
      have HST := Lib.hid (sel_step all v HG.out hkl)
      have hz3 := hbel.size
      have hbz : be < wr.heap.size := by omega
      have HLT := Lib.hid hlt
      have HKB : Hid (k ≤ 9000) := by have := HN.out; unfold Hid; omega
      generalize D[k] = X at *
      obtain ⟨x, y, z⟩ := X
      simp only at c0 c1 c2' HST hT
      rcases (show all = true ∨ (all = false ∧ z = v) ∨ (all = false ∧ z ≠ v) from by cases all <;> simp; exact Decidable.em _) with rfl | ⟨rfl, hzv⟩ | ⟨rfl, hzv⟩
      · have HSS : Hid (spS true v (D.take (k + 1)) = spS true v (D.take k) ++ [(x, y)]) := by unfold Hid; rw [hT]; simp [selB]
        clear hT
        rcases HST.out with ⟨h0, ht⟩ | ⟨init, ⟨z1, z2⟩, h0, hle, ht⟩
        · have HF : Hid ([] ++ [(x, y)] = closeL 0 (spS true v (D.take (k + 1)))) := by unfold Hid; rw [HSS.out, ht]; rfl
          rw [h0] at hown
          clear HST ht HSS h0
          obtain ⟨Av, nv, cv, rfl, HLv, hcv, -⟩ := Rg.IsSp.split (Rg.IsSp.own hown)
          obtain rfl : nv = 0 := by simpa using HLv.out.symm
          clear HLv
          go_wp2_with fail
          go_quiet (fail)
          have e1 : Ext wr (wr.alloc (.cells #[.int .i64 x, .int .i64 y, .int .i64 z] 39)) := (Below.refl _ _).alloc (Nat.le_refl _) _
          have e2 := below_drewN e1 nq
          have d0 : ((wr.alloc (.cells #[.int .i64 x, .int .i64 y, .int .i64 z] 39)).drewN nq).cell? ⟨wr.heap.size, 0, Option.none⟩ = some (.int .i64 x) := by simp
          have d1 : ((wr.alloc (.cells #[.int .i64 x, .int .i64 y, .int .i64 z] 39)).drewN nq).cell? ⟨wr.heap.size, 1, Option.none⟩ = some (.int .i64 y) := by simp
          have dz : wr.heap.size < ((wr.alloc (.cells #[.int .i64 x, .int .i64 y, .int .i64 z] 39)).drewN nq).heap.size := by simp
          generalize (wr.alloc (.cells #[.int .i64 x, .int .i64 y, .int .i64 z] 39)).drewN nq = W2 at *
          clear e1
          have B2 : Below w2.heap.size w2 W2 := hbel.trans (e2.mono hbel.size)
          have own2 := Rg.Below.own hown e2
          clear hown hbel e2 c0 c1
          go_wp2_with (at_builtin; refine Rg.app_span W2 (by rfl) _ _ (by rfl) w2.heap.size _ [] x y (by rfl) own2 (by rfl) (by simp) B2.size ?_; intro v3 w3 hown3 hgrow; have B3 : Below w2.heap.size w2 w3 := Rg.below_app B2 B2.size own2 hgrow; clear hgrow)
          go_roundw
          case rel => exact ⟨k + 1, by have := HLT.out; omega, by go_num, by rw [← HF.out]; exact hown3, B3⟩
          case measure => have := HLT.out; simp [intOf]; omega
        · rw [h0] at hown
          have hal2 : (init ++ [(z1, z2)]).length ≤ k := by rw [← h0]; have := closeL_len 0 (spS true v (D.take k)); have := spS_len true v (D.take k); rw [List.length_take] at this; omega
          clear h0
          obtain ⟨Av, nv, cv, rfl, HLv, hcv, -⟩ := Rg.IsSp.split (Rg.IsSp.own hown)
          obtain ⟨gb, hgb, hgl, hav⟩ : ∃ gb, w2.heap.size ≤ gb ∧ gb < wr.heap.size ∧ Av = some ⟨gb, 0, Option.none⟩ := by
            obtain ⟨g', cap, e, h1, h2⟩ := World.ownsRow.form hown (by simp)
            injection e with e _ _
            exact ⟨g', h1, h2, e⟩
          subst hav
          have hil : init.length + 1 = nv := by have := HLv.out; simpa using this
          obtain ⟨ml, rfl⟩ : ∃ ml, nv = ml + 1 := ⟨init.length, hil.symm⟩
          have HIL : Hid (init.length = ml) := by unfold Hid; omega
          clear hil
          have o1 := Rg.own_raw (n := ml + 1) (by simp [HIL.out]) hown
          have hcz : wr.cell? ⟨gb, ml * 2 + 1, Option.none⟩ = some (.int .i64 z2) := by rw [World.ownsRow.cellAt o1 _ (by omega), ← HIL.out]; simpa using Rg.flat_get1 (init ++ [(z1, z2)]) init.length (by simp)
          clear o1
          simp only at hle ht
          have hmk : ml + 1 ≤ k := by have := HIL.out; simp at hal2; omega
          clear hal2 HLv HST
          have q1 : ml < ml + 1 := Nat.lt_succ_self _
          have q2 : (ml : Int) < (ml : Int) + 1 := by omega
          have q3 : (0 : Int) ≤ (ml : Int) := by omega
          have q4 : (ml : Int) < ((ml + 1 : Nat) : Int) := by omega
          have HO := Lib.hid hown
          clear hown
          by_cases hgap : z2 = x
          · have HF : Hid (init ++ [(z1, y)] = closeL 0 (spS true v (D.take (k + 1)))) := by unfold Hid; rw [HSS.out, ht, if_pos hgap]
            clear ht HSS hle
            subst hgap
            go_wp2_with fail
            go_quiet (fail)
            have hown := HO.out
            clear HO
            have e1 : Ext wr (wr.alloc (.cells #[.int .i64 z2, .int .i64 y, .int .i64 z] 39)) := (Below.refl _ _).alloc (Nat.le_refl _) _
            have e2 := below_drewN e1 nq
            have d0 : ((wr.alloc (.cells #[.int .i64 z2, .int .i64 y, .int .i64 z] 39)).drewN nq).cell? ⟨wr.heap.size, 0, Option.none⟩ = some (.int .i64 z2) := by simp
            have d1 : ((wr.alloc (.cells #[.int .i64 z2, .int .i64 y, .int .i64 z] 39)).drewN nq).cell? ⟨wr.heap.size, 1, Option.none⟩ = some (.int .i64 y) := by simp
            have dz : wr.heap.size < ((wr.alloc (.cells #[.int .i64 z2, .int .i64 y, .int .i64 z] 39)).drewN nq).heap.size := by simp
            generalize (wr.alloc (.cells #[.int .i64 z2, .int .i64 y, .int .i64 z] 39)).drewN nq = W2 at *
            clear e1
            have B2 : Below w2.heap.size w2 W2 := hbel.trans (e2.mono hbel.size)
            have own2 := Rg.Below.own hown e2
            clear hown hbel e2 c0 c1 hcz
            have o2 := Rg.own_raw (n := ml + 1) (by simp [HIL.out]) own2
            have x3 := World.ownsRow.frozenAt o2 (ml * 2 + 1)
            have x2c : W2.cell? ⟨gb, ml * 2 + 1, Option.none⟩ = some (.int .i64 z2) := by rw [World.ownsRow.cellAt o2 _ (by omega), ← HIL.out]; simpa using Rg.flat_get1 (init ++ [(z1, z2)]) init.length (by simp)
            have HST : Hid (Rg.OwnS (W2.setCell ⟨gb, ml * 2 + 1, Option.none⟩ (.int .i64 y)) w2.heap.size (.slice (some ⟨gb, 0, Option.none⟩) (ml + 1) cv) (init ++ [(z1, y)])) := Rg.own_set HIL.out own2 (y := y)
            have HB3 : Hid (Below w2.heap.size w2 (W2.setCell ⟨gb, ml * 2 + 1, Option.none⟩ (.int .i64 y))) := B2.setCell hgb _
            clear own2 o2
            go_wp2_with fail
            go_roundw
            case rel => exact ⟨k + 1, by have := HLT.out; omega, by go_num, by rw [← HF.out]; exact HST.out, HB3.out⟩
            case measure => have := HLT.out; simp [intOf]; omega
          · have HF : Hid ((init ++ [(z1, z2)]) ++ [(x, y)] = closeL 0 (spS true v (D.take (k + 1)))) := by unfold Hid; rw [HSS.out, ht, if_neg hgap]; simp
            clear ht HSS hle
            go_wp2_with fail
            go_quiet (fail)
            have hown := HO.out
            clear HO
            have e1 : Ext wr (wr.alloc (.cells #[.int .i64 x, .int .i64 y, .int .i64 z] 39)) := (Below.refl _ _).alloc (Nat.le_refl _) _
            have e2 := below_drewN e1 nq
            have d0 : ((wr.alloc (.cells #[.int .i64 x, .int .i64 y, .int .i64 z] 39)).drewN nq).cell? ⟨wr.heap.size, 0, Option.none⟩ = some (.int .i64 x) := by simp
            have d1 : ((wr.alloc (.cells #[.int .i64 x, .int .i64 y, .int .i64 z] 39)).drewN nq).cell? ⟨wr.heap.size, 1, Option.none⟩ = some (.int .i64 y) := by simp
            have dz : wr.heap.size < ((wr.alloc (.cells #[.int .i64 x, .int .i64 y, .int .i64 z] 39)).drewN nq).heap.size := by simp
            generalize (wr.alloc (.cells #[.int .i64 x, .int .i64 y, .int .i64 z] 39)).drewN nq = W2 at *
            clear e1
            have B2 : Below w2.heap.size w2 W2 := hbel.trans (e2.mono hbel.size)
            have own2 := Rg.Below.own hown e2
            clear hown hbel e2 c0 c1 hcz
            go_wp2_with (at_builtin; refine Rg.app_span W2 (by rfl) _ _ (by rfl) w2.heap.size _ (init ++ [(z1, z2)]) x y (by rfl) own2 (by rfl) (by have := HIL.out; have := HKB.out; simp; omega) B2.size ?_; intro v3 w3 hown3 hgrow; have B3 : Below w2.heap.size w2 w3 := Rg.below_app B2 B2.size own2 hgrow; clear hgrow)
            go_roundw
            case rel => exact ⟨k + 1, by have := HLT.out; omega, by go_num, by rw [← HF.out]; exact hown3, B3⟩
            case measure => have := HLT.out; simp [intOf]; omega
      · subst hzv
        have HSS : Hid (spS false z (D.take (k + 1)) = spS false z (D.take k) ++ [(x, y)]) := by unfold Hid; rw [hT]; simp [selB]
        clear hT
        rcases HST.out with ⟨h0, ht⟩ | ⟨init, ⟨z1, z2⟩, h0, hle, ht⟩
        · have HF : Hid ([] ++ [(x, y)] = closeL 0 (spS false z (D.take (k + 1)))) := by unfold Hid; rw [HSS.out, ht]; rfl
          rw [h0] at hown
          clear HST ht HSS h0
          obtain ⟨Av, nv, cv, rfl, HLv, hcv, -⟩ := Rg.IsSp.split (Rg.IsSp.own hown)
          obtain rfl : nv = 0 := by simpa using HLv.out.symm
          clear HLv
          go_wp2_with fail
          go_quiet (fail)
          have e1 : Ext wr (wr.alloc (.cells #[.int .i64 x, .int .i64 y, .int .i64 z] 39)) := (Below.refl _ _).alloc (Nat.le_refl _) _
          have e2 := below_drewN e1 nq
          have d0 : ((wr.alloc (.cells #[.int .i64 x, .int .i64 y, .int .i64 z] 39)).drewN nq).cell? ⟨wr.heap.size, 0, Option.none⟩ = some (.int .i64 x) := by simp
          have d1 : ((wr.alloc (.cells #[.int .i64 x, .int .i64 y, .int .i64 z] 39)).drewN nq).cell? ⟨wr.heap.size, 1, Option.none⟩ = some (.int .i64 y) := by simp
          have dz : wr.heap.size < ((wr.alloc (.cells #[.int .i64 x, .int .i64 y, .int .i64 z] 39)).drewN nq).heap.size := by simp
          generalize (wr.alloc (.cells #[.int .i64 x, .int .i64 y, .int .i64 z] 39)).drewN nq = W2 at *
          clear e1
          have B2 : Below w2.heap.size w2 W2 := hbel.trans (e2.mono hbel.size)
          have own2 := Rg.Below.own hown e2
          clear hown hbel e2 c0 c1
          go_wp2_with (at_builtin; refine Rg.app_span W2 (by rfl) _ _ (by rfl) w2.heap.size _ [] x y (by rfl) own2 (by rfl) (by simp) B2.size ?_; intro v3 w3 hown3 hgrow; have B3 : Below w2.heap.size w2 w3 := Rg.below_app B2 B2.size own2 hgrow; clear hgrow)
          go_roundw
          case rel => exact ⟨k + 1, by have := HLT.out; omega, by go_num, by rw [← HF.out]; exact hown3, B3⟩
          case measure => have := HLT.out; simp [intOf]; omega
        · rw [h0] at hown
          have hal2 : (init ++ [(z1, z2)]).length ≤ k := by rw [← h0]; have := closeL_len 0 (spS false z (D.take k)); have := spS_len false z (D.take k); rw [List.length_take] at this; omega
          clear h0
          obtain ⟨Av, nv, cv, rfl, HLv, hcv, -⟩ := Rg.IsSp.split (Rg.IsSp.own hown)
          obtain ⟨gb, hgb, hgl, hav⟩ : ∃ gb, w2.heap.size ≤ gb ∧ gb < wr.heap.size ∧ Av = some ⟨gb, 0, Option.none⟩ := by
            obtain ⟨g', cap, e, h1, h2⟩ := World.ownsRow.form hown (by simp)
            injection e with e _ _
            exact ⟨g', h1, h2, e⟩
          subst hav
          have hil : init.length + 1 = nv := by have := HLv.out; simpa using this
          obtain ⟨ml, rfl⟩ : ∃ ml, nv = ml + 1 := ⟨init.length, hil.symm⟩
          have HIL : Hid (init.length = ml) := by unfold Hid; omega
          clear hil
          have o1 := Rg.own_raw (n := ml + 1) (by simp [HIL.out]) hown
          have hcz : wr.cell? ⟨gb, ml * 2 + 1, Option.none⟩ = some (.int .i64 z2) := by rw [World.ownsRow.cellAt o1 _ (by omega), ← HIL.out]; simpa using Rg.flat_get1 (init ++ [(z1, z2)]) init.length (by simp)
          clear o1
          simp only at hle ht
          have hmk : ml + 1 ≤ k := by have := HIL.out; simp at hal2; omega
          clear hal2 HLv HST
          have q1 : ml < ml + 1 := Nat.lt_succ_self _
          have q2 : (ml : Int) < (ml : Int) + 1 := by omega
          have q3 : (0 : Int) ≤ (ml : Int) := by omega
          have q4 : (ml : Int) < ((ml + 1 : Nat) : Int) := by omega
          have HO := Lib.hid hown
          clear hown
          by_cases hgap : z2 = x
          · have HF : Hid (init ++ [(z1, y)] = closeL 0 (spS false z (D.take (k + 1)))) := by unfold Hid; rw [HSS.out, ht, if_pos hgap]
            clear ht HSS hle
            subst hgap
            go_wp2_with fail
            go_quiet (fail)
            have hown := HO.out
            clear HO
            have e1 : Ext wr (wr.alloc (.cells #[.int .i64 z2, .int .i64 y, .int .i64 z] 39)) := (Below.refl _ _).alloc (Nat.le_refl _) _
            have e2 := below_drewN e1 nq
            have d0 : ((wr.alloc (.cells #[.int .i64 z2, .int .i64 y, .int .i64 z] 39)).drewN nq).cell? ⟨wr.heap.size, 0, Option.none⟩ = some (.int .i64 z2) := by simp
            have d1 : ((wr.alloc (.cells #[.int .i64 z2, .int .i64 y, .int .i64 z] 39)).drewN nq).cell? ⟨wr.heap.size, 1, Option.none⟩ = some (.int .i64 y) := by simp
            have dz : wr.heap.size < ((wr.alloc (.cells #[.int .i64 z2, .int .i64 y, .int .i64 z] 39)).drewN nq).heap.size := by simp
            generalize (wr.alloc (.cells #[.int .i64 z2, .int .i64 y, .int .i64 z] 39)).drewN nq = W2 at *
            clear e1
            have B2 : Below w2.heap.size w2 W2 := hbel.trans (e2.mono hbel.size)
            have own2 := Rg.Below.own hown e2
            clear hown hbel e2 c0 c1 hcz
            have o2 := Rg.own_raw (n := ml + 1) (by simp [HIL.out]) own2
            have x3 := World.ownsRow.frozenAt o2 (ml * 2 + 1)
            have x2c : W2.cell? ⟨gb, ml * 2 + 1, Option.none⟩ = some (.int .i64 z2) := by rw [World.ownsRow.cellAt o2 _ (by omega), ← HIL.out]; simpa using Rg.flat_get1 (init ++ [(z1, z2)]) init.length (by simp)
            have HST : Hid (Rg.OwnS (W2.setCell ⟨gb, ml * 2 + 1, Option.none⟩ (.int .i64 y)) w2.heap.size (.slice (some ⟨gb, 0, Option.none⟩) (ml + 1) cv) (init ++ [(z1, y)])) := Rg.own_set HIL.out own2 (y := y)
            have HB3 : Hid (Below w2.heap.size w2 (W2.setCell ⟨gb, ml * 2 + 1, Option.none⟩ (.int .i64 y))) := B2.setCell hgb _
            clear own2 o2
            go_wp2_with fail
            go_roundw
            case rel => exact ⟨k + 1, by have := HLT.out; omega, by go_num, by rw [← HF.out]; exact HST.out, HB3.out⟩
            case measure => have := HLT.out; simp [intOf]; omega
          · have HF : Hid ((init ++ [(z1, z2)]) ++ [(x, y)] = closeL 0 (spS false z (D.take (k + 1)))) := by unfold Hid; rw [HSS.out, ht, if_neg hgap]; simp
            clear ht HSS hle
            go_wp2_with fail
            go_quiet (fail)
            have hown := HO.out
            clear HO
            have e1 : Ext wr (wr.alloc (.cells #[.int .i64 x, .int .i64 y, .int .i64 z] 39)) := (Below.refl _ _).alloc (Nat.le_refl _) _
            have e2 := below_drewN e1 nq
            have d0 : ((wr.alloc (.cells #[.int .i64 x, .int .i64 y, .int .i64 z] 39)).drewN nq).cell? ⟨wr.heap.size, 0, Option.none⟩ = some (.int .i64 x) := by simp
            have d1 : ((wr.alloc (.cells #[.int .i64 x, .int .i64 y, .int .i64 z] 39)).drewN nq).cell? ⟨wr.heap.size, 1, Option.none⟩ = some (.int .i64 y) := by simp
            have dz : wr.heap.size < ((wr.alloc (.cells #[.int .i64 x, .int .i64 y, .int .i64 z] 39)).drewN nq).heap.size := by simp
            generalize (wr.alloc (.cells #[.int .i64 x, .int .i64 y, .int .i64 z] 39)).drewN nq = W2 at *
            clear e1
            have B2 : Below w2.heap.size w2 W2 := hbel.trans (e2.mono hbel.size)
            have own2 := Rg.Below.own hown e2
            clear hown hbel e2 c0 c1 hcz
            go_wp2_with (at_builtin; refine Rg.app_span W2 (by rfl) _ _ (by rfl) w2.heap.size _ (init ++ [(z1, z2)]) x y (by rfl) own2 (by rfl) (by have := HIL.out; have := HKB.out; simp; omega) B2.size ?_; intro v3 w3 hown3 hgrow; have B3 : Below w2.heap.size w2 w3 := Rg.below_app B2 B2.size own2 hgrow; clear hgrow)
            go_roundw
            case rel => exact ⟨k + 1, by have := HLT.out; omega, by go_num, by rw [← HF.out]; exact hown3, B3⟩
            case measure => have := HLT.out; simp [intOf]; omega
      · have HSS : Hid (spS false v (D.take (k + 1)) = spS false v (D.take k)) := by unfold Hid; rw [hT]; simp [selB, hzv]
        clear hT HST
        have HF : Hid (spS false v (D.take (k + 1)) = spS false v (D.take k)) := HSS
        have e1 : Ext wr (wr.alloc (.cells #[.int .i64 x, .int .i64 y, .int .i64 z] 39)) := (Below.refl _ _).alloc (Nat.le_refl _) _
        have HO2 := Lib.hid (Rg.Below.own hown e1)
        have HB2 := Lib.hid (hbel.trans (e1.mono hbel.size))
        clear hown hbel e1
        go_wp2_with fail
        go_roundw
        case rel => exact ⟨k + 1, by have := HLT.out; omega, by go_num, by rw [HF.out]; exact HO2.out, HB2.out⟩
        case measure => have := HLT.out; simp [intOf]; omega
    · obtain rfl : n2 = k := by omega
      rw [List.take_of_length_le (l := D) (i := n2) (by omega)] at hown
      have E3 := F2.trans (hbel.mono hwz)
      have hsp := Rg.IsSp.own hown
      go_wp2
      go_ret
      exact ⟨_, rfl, hsp, E3⟩
end Go.Proofs.Ytlnfpolhccbnpaa
