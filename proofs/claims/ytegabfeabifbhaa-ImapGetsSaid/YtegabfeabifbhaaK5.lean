/-
  The reference's Get.
-/
import Derived.Test.YtegabfeabifbhaaJ1
import Derived.Test.YtegabfeabifbhaaK4
namespace Go.Proofs.Ytegabfeabifbhaa
open Go Go.RowKit

theorem getI_hit {D : List Rn} (hg : Good 0 Option.none D) {p : Int} {k : Nat} (hk : k < D.length) (h1 : D[k].1 ≤ p) (h2 : p < D[k].2.1) : getI D p = (D[k].2.2, D[k].1, D[k].2.1, true) := by
  have hi : k = idxA D p := idxR_is (by omega) (fun j hj hjk => by
    have := List.pairwise_iff_getElem.1 (good_rise hg) j k hj hk hjk
    simp; omega) (fun j hj hjk => by
    rcases Nat.lt_or_eq_of_le hjk with h | h
    · have := List.pairwise_iff_getElem.1 (good_rise hg) k j hk hj h
      have := good_mem hg D[j] (List.getElem_mem _)
      simp; omega
    · subst h; simpa using h2)
  unfold getI
  rw [← hi, getD_at hk, if_pos ⟨h1, hk⟩]
theorem getI_miss {D : List Rn} (hg : Good 0 Option.none D) {p : Int} (h : ∀ j (hj : j < D.length), ¬ (D[j].1 ≤ p ∧ p < D[j].2.1)) : getI D p = (0, 0, 0, false) := by
  unfold getI
  by_cases hk : idxA D p < D.length
  · rw [getD_at hk, if_neg]
    rintro ⟨h1, _⟩
    exact h _ hk ⟨h1, idxA_behind hg (a := p) _ (by rw [List.drop_eq_getElem_cons hk]; exact List.mem_cons_self ..)⟩
  · rw [if_neg (fun k => hk k.2)]
theorem row_setk {W : World} {p : Nat} {cs : Array Value} {t : TypeId} (h : W.heap[p]? = some (.cells cs t (0, 0))) (k : Nat) (v : Value) : (W.setCell ⟨p, k, none⟩ v).heap[p]? = some (.cells (cs.setIfInBounds k v) t (0, 0)) := by
  obtain ⟨hlt, hk⟩ := Array.getElem?_eq_some_iff.1 h
  show (W.heap.modify p _)[p]? = _
  rw [Array.getElem?_eq_getElem (by rw [Array.size_modify]; exact hlt), Array.getElem_modify_self, hk]
  rfl
theorem trio {W : World} {p : Nat} {x y z : Value} {t : TypeId} (h : W.heap[p]? = some (.cells #[x, y, z] t (0, 0))) (a b c : Value) : (((W.setCell ⟨p, 0, none⟩ a).setCell ⟨p, 1, none⟩ b).setCell ⟨p, 2, none⟩ c).heap[p]? = some (.cells #[a, b, c] t (0, 0)) :=
  row_setk (row_setk (row_setk h 0 a) 1 b) 2 c
theorem row_cells3 {W : World} {p : Nat} {x y z : Value} {t : TypeId} (h : W.heap[p]? = some (.cells #[x, y, z] t (0, 0))) : W.cell? ⟨p, 0, none⟩ = some x ∧ W.cell? ⟨p, 1, none⟩ = some y ∧ W.cell? ⟨p, 2, none⟩ = some z ∧ (∀ k, W.frozen? ⟨p, k, none⟩ = false) ∧ p < W.heap.size := by
  refine ⟨by simp [World.cell?, h], by simp [World.cell?, h], by simp [World.cell?, h], fun k => by simp [World.frozen?, h], (Array.getElem?_eq_some_iff.1 h).1⟩

set_option maxHeartbeats 8000000 in
set_option maxRecDepth 100000 in
theorem rget_any (A : Option Addr) (n c : Nat) (l : List Ac) (p : Int) (w : World) (hn : l.length = n) (hm : n ≤ 1000) (hs : AcAt w w.heap.size A l) :
    Calls Try.prog 18 #[.slice A n c, .int .i64 p] w fun e w' => e = .returned (.tuple #[.agg #[.int .i64 (getI (actsI [] l) p).2.1, .int .i64 (getI (actsI [] l) p).2.2.1, .int .i64 (getI (actsI [] l) p).1], .bool (getI (actsI [] l) p).2.2.2]) ∧ Ext w w' := by
  have e1 : Ext w (w.alloc (.cells #[.int .i64 0, .int .i64 0, .int .i64 0] 39)) := (Below.refl _ _).alloc (Nat.le_refl _) _
  have r1 : (w.alloc (.cells #[.int .i64 0, .int .i64 0, .int .i64 0] 39)).heap[w.heap.size]? = some (.cells #[.int .i64 0, .int .i64 0, .int .i64 0] 39 (0, 0)) := heap_alloc_new w _
  have z1 : w.heap.size < (w.alloc (.cells #[.int .i64 0, .int .i64 0, .int .i64 0] 39)).heap.size := by simp
  have hR := Lib.hid (runs_any A n c l _ hn hm (hs.ext e1))
  have HG := Lib.hid (actsI_good l (D := []) trivial)
  have hle := actsI_len l (D := []) trivial
  generalize actsI [] l = D at *
  clear hs
  go_enter Try.func18, Try.ntmps18
  go_wp2_with (go_at_call 13; refine (Hid.out hR).mono ?_; rintro e w1 ⟨v, rfl, own1, F1⟩; obtain ⟨A1, n1, c1, rfl⟩ := own_slice own1; obtain ⟨hl1, hat⟩ := RnAt.ownQ own1; have HAT := Lib.hid hat; have E1 := Ext.tr e1 F1; have r2 := (F1.block _ z1).trans r1; clear own1 hat F1)
  clear hR e1 r1 z1
  have hn1 : n1 ≤ 3000 := by simp at hle; omega
  clear hle
  go_loopw [11] (fun i wr => ∃ k : Nat, k ≤ n1 ∧ i = .int .i64 k ∧ Hid (∀ j (hj : j < D.length), j < k → ¬ (D[j].1 ≤ p ∧ p < D[j].2.1)) ∧ Ext w1 wr) (fun i _ => n1 - (intOf i).toNat)
  case atStart => exact ⟨0, Nat.zero_le _, rfl, fun j _ h => absurd h (Nat.not_lt_zero _), Ext.rf _⟩
  case round =>
    obtain ⟨k, hk, rfl, HM, hE⟩ := hrel
    have r3 := (hE.block _ (Array.getElem?_eq_some_iff.1 r2).1).trans r2
    by_cases hlt : k < n1
    · have hkl : k < D.length := by omega
      obtain ⟨b, o, rfl, hb, hc⟩ := (HAT.out.ext hE) (by omega)
      obtain ⟨c0, c1', c2⟩ := hc k hkl
      clear hc
      have q1 : (0 : Int) ≤ (k : Int) := by omega
      have q2 : (k : Int) < (n1 : Int) := by omega
      have HH := Lib.hid (fun h1 h2 => getI_hit HG.out hkl (p := p) h1 h2)
      have HN : Hid (¬ (D[k].1 ≤ p ∧ p < D[k].2.1) → ∀ j (hj : j < D.length), j < k + 1 → ¬ (D[j].1 ≤ p ∧ p < D[j].2.1)) := fun h j hj hjk => by
        rcases Nat.lt_or_eq_of_le (show j ≤ k by omega) with h1 | h1
        · exact HM.out j hj h1
        · subst h1; exact h
      generalize D[k] = F at *
      obtain ⟨f1, f2, f3⟩ := F
      simp only at c0 c1' c2 HH HN
      have hz3 : w.heap.size < wr.heap.size := (Array.getElem?_eq_some_iff.1 r3).1
      by_cases h1 : f1 ≤ p
      · by_cases h2 : p < f2
        · have HF := Lib.hid (HH.out h1 h2)
          have P := trio r3 (.int .i64 f1) (.int .i64 f2) (.int .i64 f3)
          have P' := ((Below.refl (((wr.setCell ⟨w.heap.size, 0, none⟩ (.int .i64 f1)).setCell ⟨w.heap.size, 1, none⟩ (.int .i64 f2)).setCell ⟨w.heap.size, 2, none⟩ (.int .i64 f3)).heap.size (((wr.setCell ⟨w.heap.size, 0, none⟩ (.int .i64 f1)).setCell ⟨w.heap.size, 1, none⟩ (.int .i64 f2)).setCell ⟨w.heap.size, 2, none⟩ (.int .i64 f3))).alloc (Nat.le_refl _) (.cells #[.int .i64 f1, .int .i64 f2, .int .i64 f3] 39)).block _ (Array.getElem?_eq_some_iff.1 P).1 |>.trans P
          obtain ⟨p0, p1, p2, -, -⟩ := row_cells3 P'
          obtain ⟨d0, d1, d2, df, -⟩ := row_cells3 r3
          have df0 := df 0
          have df1 := df 1
          have df2 := df 2
          clear HH HN HM P P' r3 df
          go_wp2
          refine bodyPost_ret (v := .tuple #[.agg #[.int .i64 f1, .int .i64 f2, .int .i64 f3], .bool true]) (by simp [results, Try.results18, go_sem, p0, p1, p2]) rfl ⟨by rw [HF.out], ?_⟩
          exact Below.alloc (Below.setCell (Below.setCell (Below.setCell (Ext.tr E1 hE) (Nat.le_refl _) _) (Nat.le_refl _) _) (Nat.le_refl _) _) (by simp; omega) _
        · have HF := Lib.hid (HN.out (fun h => h2 h.2))
          have s1 : f2 ≤ p := by omega
          clear HH HN HM r3
          go_wp2
          go_roundw
          case rel => exact ⟨k + 1, by omega, by go_num, HF, Ext.tr hE ((Below.refl _ _).alloc (Nat.le_refl _) _)⟩
          case measure => simp [intOf]; omega
      · have HF := Lib.hid (HN.out (fun h => h1 h.1))
        clear HH HN HM r3
        go_wp2
        go_roundw
        case rel => exact ⟨k + 1, by omega, by go_num, HF, Ext.tr hE ((Below.refl _ _).alloc (Nat.le_refl _) _)⟩
        case measure => simp [intOf]; omega
    · obtain rfl : k = n1 := by omega
      have HF : Hid (getI D p = (0, 0, 0, false)) := getI_miss HG.out fun j hj => HM.out j hj (by omega)
      have P := trio r3 (.int .i64 0) (.int .i64 0) (.int .i64 0)
      obtain ⟨p0, p1, p2, -, -⟩ := row_cells3 P
      obtain ⟨d0, d1, d2, df, dz⟩ := row_cells3 r3
      have df0 := df 0
      have df1 := df 1
      have df2 := df 2
      clear HM P r3 df
      go_wp2
      refine bodyPost_ret (v := .tuple #[.agg #[.int .i64 0, .int .i64 0, .int .i64 0], .bool false]) (by simp [results, Try.results18, go_sem, p0, p1, p2]) rfl ⟨by rw [HF.out], ?_⟩
      exact Below.setCell (Below.setCell (Below.setCell (Ext.tr E1 hE) (Nat.le_refl _) _) (Nat.le_refl _) _) (Nat.le_refl _) _
end Go.Proofs.Ytegabfeabifbhaa
