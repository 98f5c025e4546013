/-
  The reference's In: what of the runs lies in a span.
-/
import Derived.Test.YtlnfpolhccbnpaaV1
import Derived.Test.YtlnfpolhccbnpaaK4
import Derived.Test.YtlnfpolhccbnpaaRef01A
namespace Go.Proofs.Ytlnfpolhccbnpaa
open Go Go.RowKit

set_option maxHeartbeats 8000000 in
set_option maxRecDepth 100000 in
theorem rIn_any (A : Option Addr) (n c : Nat) (l : List Ac) (a b : Int) (w : World) (hn : l.length = n) (hm : n ≤ 1000) (hs : AcAt w w.heap.size A l) :
    Calls Try.prog 20 #[.slice A n c, .agg #[.int .i64 a, .int .i64 b]] w fun e w' => ∃ A' n' c', e = .returned (.slice A' n' c') ∧ (inI (actsI [] l) a b).length = n' ∧ RnAt w' w'.heap.size A' (inI (actsI [] l) a b) ∧ Ext w w' := by
  have e0 : Ext w (w.alloc (.cells #[.int .i64 a, .int .i64 b] 35)) := (Below.refl _ _).alloc (Nat.le_refl _) _
  cases hr : rtB a b with
  | false =>
    have HF : Hid (inI (actsI [] l) a b = []) := by unfold Hid inI; rw [hr]; rfl
    go_enter Try.func20, Try.ntmps20
    go_wp2_with (go_at_call 43; with_reducible refine (rright_any a b _).mono ?_; rintro e w1 ⟨rfl, hb1⟩; have E1 := Ext.tr e0 hb1; clear hb1)
    go_ret
    exact ⟨Option.none, 0, 0, rfl, by rw [HF.out]; rfl, by rw [HF.out]; exact fun h => absurd h (by simp), E1⟩
  | true =>
    have HRu := Lib.hid (fun (W : World) (hW : Ext w W) => runs_any A n c l W hn hm (hs.ext hW))
    have hlen := actsI_len l (D := []) trivial
    simp only [List.length_nil, Nat.zero_add] at hlen
    have HF : Hid (inI (actsI [] l) a b = inF (actsI [] l) a b) := by unfold Hid inI; rw [hr]; rfl
    clear hs
    obtain ⟨i0, hi, hz0, hz1, hz2⟩ := info_parts infoQ
    generalize actsI [] l = D at *
    go_enter Try.func20, Try.ntmps20
    go_wp2_with (first
      | (go_at_call 43; with_reducible refine (rright_any a b _).mono ?_; rintro e w1 ⟨rfl, hb1⟩; obtain ⟨hc1, hf1⟩ := bcell hb1; have hz1' := lt1 hb1; have E1 := Ext.tr e0 hb1; have d0 := hb1.cell (p := ⟨w.heap.size, 0, Option.none⟩) (by simp); have d1 := hb1.cell (p := ⟨w.heap.size, 1, Option.none⟩) (by simp); rw [show (w.alloc (.cells #[.int .i64 a, .int .i64 b] 35)).cell? ⟨w.heap.size, 0, Option.none⟩ = some (.int .i64 a) from by simp] at d0; rw [show (w.alloc (.cells #[.int .i64 a, .int .i64 b] 35)).cell? ⟨w.heap.size, 1, Option.none⟩ = some (.int .i64 b) from by simp] at d1)
      | (go_at_call 13; refine (HRu.out _ E1).mono ?_; rintro e w2 ⟨v, rfl, hown, F2⟩; obtain ⟨A2, n2, c2, rfl⟩ := own_slice hown; have HO := Lib.hid (RnAt.ownQ hown).2; have hn2 := (RnAt.ownQ hown).1; have E2 := Ext.tr E1 F2; rw [← F2.cell (p := ⟨w.heap.size, 0, Option.none⟩) hz1'] at d0; rw [← F2.cell (p := ⟨w.heap.size, 1, Option.none⟩) hz1'] at d1; have hz2' := Nat.lt_of_lt_of_le hz1' F2.size; clear hown F2))
    have hwz := E2.size
    go_loopw [5, 14] (fun v i wr => ∃ k : Nat, k ≤ n2 ∧ i = .int .i64 k ∧ OwnQ wr w2.heap.size v (inF (D.take k) a b) ∧ Below w2.heap.size w2 wr) (fun _ i _ => n2 - (intOf i).toNat)
    case atStart => exact ⟨0, Nat.zero_le _, rfl, World.ownsRow_nil _ _ _ _, Below.refl _ _⟩
    case round =>
      obtain ⟨k, hk, rfl, hown, hbel⟩ := hrel
      by_cases hlt : k < n2
      · have hkl : k < D.length := by omega
        obtain ⟨be, oe, rfl, hbe, hc⟩ := (HO.out.below hbel (Nat.le_refl _)) (by omega)
        obtain ⟨c0, c1, c2'⟩ := hc k hkl
        clear hc
        have HT := Lib.hid (inF_take (a := a) (b := b) hkl)
        have hol := inF_len (D.take k) a b
        rw [List.length_take] at hol
        generalize inF (D.take k) a b = out at *
        generalize D[k] = X at *
        obtain ⟨x, y, z⟩ := X
        simp only at c0 c1 c2' HT
        have k0 : wr.cell? ⟨w.heap.size, 0, Option.none⟩ = some (.int .i64 a) := (hbel.cell (p := ⟨w.heap.size, 0, Option.none⟩) hz2').trans d0
        have k1 : wr.cell? ⟨w.heap.size, 1, Option.none⟩ = some (.int .i64 b) := (hbel.cell (p := ⟨w.heap.size, 1, Option.none⟩) hz2').trans d1
        have hz3 := hbel.size
        have hbz : be < wr.heap.size := by omega
        have hwz3 : w.heap.size < wr.heap.size := by omega
        obtain ⟨Av, nv, cv, rfl⟩ := own_slice hown
        have hmx : mxI x a = max x a := by unfold mxI; omega
        have hmn : mnI y b = min y b := by unfold mnI; omega
        unfold cutI at HT
        simp only [hmx, hmn] at HT
        clear hmx hmn
        have HLT := Lib.hid hlt
        have HOL : Hid (out.length ≤ 9000) := by unfold Hid; omega
        have HKB : Hid (k ≤ 9000) := by unfold Hid; omega
        have e1 : Ext wr ((wr.alloc (.cells #[.int .i64 (max x a), .int .i64 (min y b), .int .i64 z] 39)).drew) := ((Below.refl _ _).alloc (Nat.le_refl _) _).drew
        have hB2 := bel' hbel hz3 e1
        have own1 : OwnQ ((wr.alloc (.cells #[.int .i64 (max x a), .int .i64 (min y b), .int .i64 z] 39)).drew) w2.heap.size (.slice Av nv cv) out := OwnQ.ext hown e1
        have OWN := Lib.hid own1
        have B2 := Lib.hid hB2
        have HQ : Hid ((wr.alloc (.cells #[.int .i64 (max x a), .int .i64 (min y b), .int .i64 z] 39)).drew.heap[wr.heap.size]? = some (.cells #[.int .i64 (max x a), .int .i64 (min y b), .int .i64 z] 39 (0, 0))) := heap_alloc_new wr _
        have hzz : wr.heap.size < (wr.alloc (.cells #[.int .i64 (max x a), .int .i64 (min y b), .int .i64 z] 39)).drew.heap.size := by simp
        clear hown e1 hB2 own1
        by_cases hpq : max x a < min y b
        · have HF : Hid (inF (D.take (k + 1)) a b = out ++ [(max x a, min y b, z)]) := by unfold Hid; rw [HT.out, if_pos hpq]
          clear HT
          go_wp2
          go_region
          generalize max x a = P at *
          generalize min y b = Q at *
          obtain ⟨W1, hW1⟩ : ∃ W1, (wr.alloc (.cells #[.int .i64 P, .int .i64 Q, .int .i64 z] 39)).drew = W1 := ⟨_, rfl⟩
          rw [hW1] at OWN B2 HQ hzz ⊢
          clear hW1
          have q0 : W1.cell? ⟨wr.heap.size, 0, Option.none⟩ = some (.int .i64 P) := by rw [cell_of_row W1 _ 0 _ _ _ HQ.out]; rfl
          have q1 : W1.cell? ⟨wr.heap.size, 1, Option.none⟩ = some (.int .i64 Q) := by rw [cell_of_row W1 _ 1 _ _ _ HQ.out]; rfl
          have q2 : W1.cell? ⟨wr.heap.size, 2, Option.none⟩ = some (.int .i64 z) := by rw [cell_of_row W1 _ 2 _ _ _ HQ.out]; rfl
          go_wp2_with (at_builtin; refine wpList_append_own _ (by rfl) _ _ 27 (by rfl) w2.heap.size 39 i0 _ 3 24 Try.underlying27 hi hz0 hz1 hz2 rfl (by omega) _ out.length (flatR out) (by rfl) (World.ownsRow.alloc OWN.out _) ⟨W1.heap.size, 0, Option.none⟩ 1 1 [.int .i64 P, .int .i64 Q, .int .i64 z] (by rfl) (by rfl) (World.news_of_block (cs := #[.int .i64 P, .int .i64 Q, .int .i64 z]) (t := 39) (fr := (0, 0)) (heap_alloc_new W1 _)) (by simp [Value.oneCell']) (by have := HOL.out; unfold maxLen; omega) (by have := HOL.out; omega) (by have := B2.out.size; simp; omega) ?_; intro v3 w3 hown3 hgrow3 _)
          go_roundw
          case rel => exact ⟨k + 1, by have := HLT.out; omega, by go_num, by rw [HF.out]; unfold OwnQ; rw [flatR_append, List.length_append]; exact hown3, (B2.out.alloc B2.out.size _).grown hgrow3 (by have := B2.out.size; simp; omega) (fun g hg => (World.ownsRow.lt OWN.out g hg).1)⟩
          case measure => have := HLT.out; simp [intOf]; omega
        · have HF : Hid (inF (D.take (k + 1)) a b = out) := by unfold Hid; rw [HT.out, if_neg hpq, List.append_nil]
          clear HT
          go_wp2
          go_region
          generalize max x a = P at *
          generalize min y b = Q at *
          obtain ⟨W1, hW1⟩ : ∃ W1, (wr.alloc (.cells #[.int .i64 P, .int .i64 Q, .int .i64 z] 39)).drew = W1 := ⟨_, rfl⟩
          rw [hW1] at OWN B2 HQ hzz ⊢
          clear hW1
          have q0 : W1.cell? ⟨wr.heap.size, 0, Option.none⟩ = some (.int .i64 P) := by rw [cell_of_row W1 _ 0 _ _ _ HQ.out]; rfl
          have q1 : W1.cell? ⟨wr.heap.size, 1, Option.none⟩ = some (.int .i64 Q) := by rw [cell_of_row W1 _ 1 _ _ _ HQ.out]; rfl
          go_wp2
          go_roundw
          case rel => exact ⟨k + 1, by have := HLT.out; omega, by go_num, by rw [HF.out]; exact OWN.out, B2.out⟩
          case measure => have := HLT.out; simp [intOf]; omega
      · obtain rfl : n2 = k := by omega
        rw [List.take_of_length_le (by omega)] at hown
        obtain ⟨Av, nv, cv, rfl⟩ := own_slice hown
        have E3 := E2.trans (hbel.mono hwz)
        go_wp2
        go_ret
        exact ⟨Av, nv, cv, rfl, by rw [HF.out]; exact (RnAt.ownQ hown).1, by rw [HF.out]; exact (RnAt.ownQ hown).2, E3⟩
end Go.Proofs.Ytlnfpolhccbnpaa
