/-
  The reference's Near: a list with its short gaps laid behind it, as a set.
-/
import Derived.Test.YtdmkfleiipfbgaaDoorNA
namespace Go.Proofs.YtdmkfleiipfbgaaDoor
open Go Go.RowKit

def gapsL (g : Int) : List Sp → List Sp
  | x :: y :: r => (if y.1 - x.2 ≤ g then [(x.2, y.1)] else []) ++ gapsL g (y :: r)
  | _ => []
theorem gapsL_snoc (g : Int) (x y : Sp) : ∀ m : List Sp, gapsL g (m ++ [x, y]) = gapsL g (m ++ [x]) ++ (if y.1 - x.2 ≤ g then [(x.2, y.1)] else [])
  | [] => by simp [gapsL]
  | [z] => by simp [gapsL]
  | z :: z' :: m => by
    have ih := gapsL_snoc g x y (z' :: m)
    simp only [List.cons_append, gapsL] at ih ⊢
    rw [ih, List.append_assoc]
theorem gapsL_len (g : Int) : ∀ l : List Sp, (gapsL g l).length ≤ l.length
  | [] => by simp [gapsL]
  | [x] => by simp [gapsL]
  | x :: y :: r => by
    have ih := gapsL_len g (y :: r)
    simp only [gapsL, List.length_append, List.length_cons] at ih ⊢
    split <;> simp <;> omega
theorem gapsL_at (g : Int) {l : List Sp} {k : Nat} (h : k + 1 < l.length) : gapsL g (l.take (k + 2)) = gapsL g (l.take (k + 1)) ++ (if l[k + 1].1 - l[k].2 ≤ g then [(l[k].2, l[k + 1].1)] else []) := by
  rw [List.take_succ_eq_append_getElem h, List.take_succ_eq_append_getElem (Nat.lt_of_succ_lt h), List.append_assoc]
  exact gapsL_snoc g _ _ _
theorem gaps_in (g p : Int) : ∀ l : List Sp, Canon l → (InL (gapsL g l) p ↔ GapP g p l)
  | [], _ => by simp [gapsL, GapP, InL_nil]
  | [x], _ => by simp [gapsL, GapP, InL_nil]
  | x :: y :: r, h => by
    have ih := gaps_in g p (y :: r) h.tail
    have sx := h.head; have sy := h.tail.head
    simp only [gapsL, GapP]
    rw [InL_append, ih]
    refine or_congr ?_ Iff.rfl
    by_cases hh : y.1 - x.2 ≤ g
    · rw [if_pos hh, InL_one]; unfold InS Solid at *; simp only; omega
    · rw [if_neg hh]; simp [InL_nil, hh]
theorem near_norm (g : Int) {l : List Sp} (h : Canon l) : normL (l ++ gapsL g l) = closeL g l := by
  refine (Norm.is ⟨near_canon g h, fun p => ?_⟩).symm
  rw [near_in g p h, InL_append, gaps_in g p l h]

set_option maxHeartbeats 16000000 in
set_option maxRecDepth 100000 in
theorem rNear_any (g : Int) (A : Option Addr) (n c : Nat) (l : List Sp) (w : World) (hnl : l.length = n) (hn : n ≤ 40000) (hb : Bnd l) (hs : SpAt w w.heap.size A l) :
    Calls Tryd.prog 30 #[.slice A n c, .int .i64 g] w fun e w' => ∃ v, e = .returned v ∧ IsSp w' v (normL (l ++ gapsL g l)) ∧ Below w.heap.size w w' := by
  have HS := Lib.hid hs
  have HB := Lib.hid hb
  have HL := Lib.hid hnl
  clear hs hb
  have e0 : Ext w (w.alloc (.cells #[] 39)) := (Below.refl _ _).alloc (Nat.le_refl _) _
  have HR : Hid (SpAt (w.alloc (.cells #[] 39)) w.heap.size A l) := HS.out.below e0 (Nat.le_refl _)
  obtain ⟨i0, hi, hz0, hz1, hz2⟩ := info_parts infoSp
  subst hnl
  go_enter Tryd.func30, Tryd.ntmps30
  go_wp2_with (at_builtin; refine app_spans _ (by rfl) _ _ (by rfl) w.heap.size _ [] l (by rfl) (OwnS.nil_at w _ (Nat.le_refl _)) w.heap.size A c (by rfl) HR.out (by simp; omega) (by simp) ?_; intro v1 w1 hown1 hgrow; have B1 : Below w.heap.size w w1 := below_app_same (by go_grown) (by simp) (OwnS.nil_at w _ (Nat.le_refl _)) hgrow; clear hgrow)
  rw [List.nil_append] at hown1
  clear e0 HR
  obtain ⟨n, HN⟩ : ∃ n, Hid (l.length = n) := ⟨_, rfl⟩
  rw [show l.length = n from HN.out] at hn ⊢
  clear HL
  go_loopw [5, 6] (fun v i wr => ∃ k : Nat, k ≤ n ∧ i = .int .i64 k ∧ OwnS wr w.heap.size v (l ++ gapsL g (l.take (k + 1))) ∧ Below w.heap.size w wr) (fun _ i _ => n - (intOf i).toNat)
  case atStart =>
    refine ⟨0, Nat.zero_le _, rfl, ?_, B1⟩
    have e : gapsL g (l.take (0 + 1)) = [] := by cases l with
      | nil => rfl
      | cons x r => simp [gapsL]
    rw [e, List.append_nil]; exact hown1
  case round =>
    obtain ⟨k, hk, rfl, hown, hbel⟩ := hrel
    have q1 : IntKind.i64.wrap ((k : Int) + 1) = (k : Int) + 1 := IntWalk.i64_in _ (by omega)
    have q2 : (0 : Int) ≤ (k : Int) + 1 := by omega
    have q3 : ((k : Int) + 1).toNat = k + 1 := by omega
    have q6 : (0 : Int) ≤ (k : Int) := by omega
    by_cases hlt : k + 1 < n
    · have hk1 : k + 1 < l.length := by have := HN.out; omega
      have hk0 : k < l.length := by omega
      have q4 : (k : Int) + 1 < (n : Int) := by omega
      have q5 : (k : Int) < (n : Int) := by omega
      obtain ⟨b, o, rfl, hbb, hc⟩ := (HS.out.below hbel (Nat.le_refl _)) (by omega)
      have c1 := (hc k hk0).2
      have c0 := (hc (k + 1) hk1).1
      clear hc
      have hx := HB.out l[k] (List.getElem_mem hk0)
      have hy := HB.out l[k + 1] (List.getElem_mem hk1)
      have HT := Lib.hid (gapsL_at g hk1)
      have hgl := gapsL_len g (l.take (k + 1))
      rw [List.length_take] at hgl
      generalize gapsL g (l.take (k + 1)) = G at *
      generalize l[k + 1] = Y at *
      generalize l[k] = X at *
      obtain ⟨x1, x⟩ := X
      obtain ⟨y, y2⟩ := Y
      simp only at hx hy HT c0 c1
      have hbz : b < wr.heap.size := by have := hbel.size; omega
      have qs : IntKind.i64.wrap (y - x) = y - x := IntWalk.i64_in _ (by omega)
      have HO := Lib.hid hown
      obtain ⟨L, HLL⟩ : ∃ L, Hid (l ++ G = L) := ⟨_, rfl⟩
      have hll : L.length ≤ 2 * n := by rw [← HLL.out, List.length_append]; have := HN.out; omega
      have hl0 : 2 ≤ L.length := by rw [← HLL.out, List.length_append]; omega
      rw [HLL.out] at hown
      clear HO
      have C0 := Lib.hid c0; have C1 := Lib.hid c1
      obtain ⟨Av, nv, cv, rfl, HLv, hcv, -⟩ := (IsSp.own hown).split
      have HO := Lib.hid hown
      clear hown
      by_cases hgap : y - x ≤ g
      · have HF : Hid (L ++ [(x, y)] = l ++ gapsL g (l.take (k + 1 + 1))) := by unfold Hid; rw [HT.out, if_pos hgap, ← HLL.out, List.append_assoc]
        clear HT HLL
        have hgd : decide (y - x ≤ g) = true := by simpa using hgap
        go_wp2_with fail
        go_quiet (fail)
        have e2 := below_drewN (Below.refl wr.heap.size wr) nq
        generalize wr.drewN nq = W2 at e2 ⊢
        have hown := HO.out
        clear HO
        have B2 := bel' hbel hbel.size e2
        have own2 := Below.own hown e2
        have hB := B2.size
        have o2 := own_raw (n := nv) HLv.out own2
        have x0 : W2.cell? ⟨b, o + k * 2 + 1, none⟩ = some (.int .i64 x) := by rw [e2.cell (p := ⟨b, o + k * 2 + 1, none⟩) hbz]; exact C1.out
        have x1 : W2.cell? ⟨b, o + (k + 1) * 2, none⟩ = some (.int .i64 y) := by rw [e2.cell (p := ⟨b, o + (k + 1) * 2, none⟩) hbz]; exact C0.out
        have ag := own_ne own2 hbb
        have hnv : nv ≤ 2 * n := by have := HLv.out; omega
        clear e2 hown hbel c0 c1
        go_wp2_with fail
        go_region_held3 (fun w' => w'.cell? ⟨b, o + k * 2 + 1, none⟩ = some (.int .i64 x) ∧ w'.cell? ⟨b, o + (k + 1) * 2, none⟩ = some (.int .i64 y)) (first | go_keep | (go_split_ands; refine ⟨?_, ?_⟩ <;> (rw [hgrow.cell_far _ (by simp; omega) (Ne.symm ag)]; assumption))) ((refine step_append_lies _ (by rfl) _ _ _ (by rfl) w.heap.size 39 i0 _ 2 16 Tryd.underlying35 hi hz0 hz1 hz2 rfl (by omega) _ nv (flat L) (by rfl) ((World.ownsRow.alloc o2 _).drew) ⟨W2.heap.size, 0, none⟩ 1 1 [.int .i64 x, .int .i64 y] (by rfl) (by rfl) (World.news_of_block (cs := #[.int .i64 x, .int .i64 y]) (t := 39) (fr := (0, 0)) (heap_alloc_new W2 _)) (by simp [Value.oneCell']) (by omega) (by unfold maxLen; omega) (by omega) (by simp; omega) (W2.heap.size + 1) (by simp) ?_; intro g1 cap1 w3 hown1 hgrow hat hltw))
        have B3 := below_app_d B2 hB own2 hgrow
        clear q2 q3 q4 q5 q6 hgrow hat hltw x0 x1 ag own2 B2
        go_wp2_with fail
        go_roundw
        case rel => exact ⟨k + 1, by omega, by go_num, by rw [← HF.out]; exact own_snocS HLv.out hown1, B3⟩
        case measure => simp [intOf]; omega
      · have HF : Hid (L = l ++ gapsL g (l.take (k + 1 + 1))) := by unfold Hid; rw [HT.out, if_neg hgap, ← HLL.out, List.append_nil]
        clear HT HLL
        have hgd : decide (y - x ≤ g) = false := by simpa using hgap
        go_wp2_with fail
        go_quiet (fail)
        have e2 := below_drewN (Below.refl wr.heap.size wr) nq
        go_wp2_with fail
        go_roundw
        case rel => exact ⟨k + 1, by omega, by go_num, by rw [← HF.out]; exact Below.own HO.out e2, bel' hbel hbel.size e2⟩
        case measure => simp [intOf]; omega
    · have HF : Hid (l.take (k + 1) = l) := List.take_of_length_le (by have := HN.out; omega)
      have hle : ¬ ((k : Int) + 1 < (n : Int)) := by omega
      rw [HF.out] at hown
      have hgl := gapsL_len g l
      obtain ⟨Av, nv, cv, rfl, HLv, hcv, hsv⟩ := (IsSp.own hown).split
      have hnv : nv ≤ 100000 := by have := HLv.out; rw [List.length_append] at this; have := HN.out; omega
      have HC := rOf_set Av nv cv _ wr HLv.out hnv hsv
      have HCC := Lib.hid HC
      clear HC hsv hown hgl
      go_wp2_with (go_at_call 27; refine HCC.out.mono ?_; rintro e w2 ⟨v2, rfl, hsp, hb2⟩; have B2 := bel' hbel hbel.size hb2; have HSP := Lib.hid hsp; clear hb2 hsp HCC)
      go_ret
      exact ⟨v2, rfl, HSP.out, B2⟩
theorem rNear_sp {W : World} {v : Value} {l : List Sp} (g : Int) (h : IsSp W v l) (hca : Canon l) (hm : l.length ≤ 40000) :
    Calls Tryd.prog 30 #[v, .int .i64 g] W fun e w' => ∃ v', e = .returned v' ∧ IsSp w' v' (closeL g l) ∧ Below W.heap.size W w' := by
  obtain ⟨A, n, c, rfl, HN, _, HS⟩ := h.split
  rw [← near_norm g hca]
  exact rNear_any g A n c l W HN.out (by have := HN.out; omega) hca.bnd HS
end Go.Proofs.YtdmkfleiipfbgaaDoor
