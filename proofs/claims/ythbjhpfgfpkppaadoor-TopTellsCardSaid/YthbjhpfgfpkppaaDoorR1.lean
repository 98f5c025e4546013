/-
  The iterator over runs, by any loop over it that keeps what lay ahead.
-/
import Derived.RangeFuncNested
import Derived.RangeFuncBox
import Derived.RangeFuncBound
import Derived.RangeFuncCalls
import Derived.RangeFuncLeaves
import Derived.Shelf.Abstract
import Derived.Shelf.RegionOpen
import Derived.WalkKit
import Derived.OwnWalkIn
import Derived.TacticsInMore
import Derived.LoopNIn
import Derived.LoopIn
import Derived.Maps.AppendAt
import Derived.Test.YthbjhpfgfpkppaaDoorIF
namespace Go.Proofs.YthbjhpfgfpkppaaDoor
open Go Go.RowKit Go.Shelf

attribute [local go_sem] Oper.semAt_some

abbrev encR (x : Rn) : Array Value := #[.agg #[.int .i64 x.1, .int .i64 x.2.1], .int .u8 x.2.2]
theorem take_snoc' {α : Type} {l : List α} {k : Nat} (h : k < l.length) : l.take (k + 1) = l.take k ++ [l[k]] := List.take_succ_eq_append_getElem h

set_option maxRecDepth 100000 in
set_option maxHeartbeats 4000000 in
theorem thr_in (F : Fence) (n : Nat) (hf : F.fn 50) (hro : F.round = none) (hn : 1 ≤ n) (l Bs n₀ B0 : Nat) (A : Option Addr) (len cap : Nat) (zs : List Rn) (hz : zs.length = len) (hbig : len ≤ 1000000) (J Jx : List Rn → World → Prop) (hJ : AbidesFrom B0 J)
    (hY : ∀ pre x W, J pre W → pre.length < len → YieldAt F (n - 1) Tryd.prog l (encR x) W fun e W' =>
      (e = .returned (.bool true) ∧ J (pre ++ [x]) W' ∧ Below n₀ W W') ∨ (e = .returned (.bool false) ∧ Jx (pre ++ [x]) W'))
    (W : World) (hBs : W.cell? ⟨Bs, 0, none⟩ = some (.slice A len cap)) (hs : RnAt W n₀ A zs) (hn0 : n₀ ≤ W.heap.size) (h0 : J [] W) :
    CallsIn F n Tryd.prog 50 #[.func (.yield l) #[] #[], .pointer (some ⟨Bs, 0, none⟩)] W fun e W' => (∃ v, e = .returned v) ∧
      ((∃ ys, ys = zs ∧ J ys W') ∨ (∃ pre, pre <+: zs ∧ Jx pre W')) := by
  have HS := Lib.hid hs
  have HZ := Lib.hid hz
  clear hs hz
  refine callsIn_of_wp Tryd.func50 rfl hf ?_ hro
  simp only [Tryd.ntmps50, List.size_toArray, List.length_cons, List.length_nil, Nat.reduceAdd, Nat.reduceSub, Array.replicate_succ, Array.replicate_zero, List.push_toArray, List.append_toArray, List.nil_append, List.cons_append]
  gi_wp2
  gi_loopw [7] (fun i wr => ∃ k : Nat, k ≤ len ∧ i = .int .i64 k ∧ J (zs.take k) wr ∧ Below n₀ W wr)
    (fun i _ => len - (intOf i).toNat)
  case atStart => exact ⟨0, Nat.zero_le _, rfl, h0, Below.refl _ _⟩
  case round =>
    obtain ⟨k, hk, rfl, hJs, hnx⟩ := hrel
    have HJ := Lib.hid hJs
    clear hJs
    by_cases hlt : k < len
    · have hkl : k < zs.length := by have := HZ.out; omega
      obtain ⟨b, o, rfl, hbb, hc⟩ := (HS.out.below hnx (Nat.le_refl _)) (by omega)
      obtain ⟨c0, c1, c2⟩ := hc k hkl
      clear hc
      have HT := Lib.hid (take_snoc' hkl)
      have HP : Hid (zs.take (k + 1) <+: zs) := List.take_prefix _ _
      obtain ⟨X, hX⟩ : ∃ X, Hid (zs[k] = X) := ⟨zs[k], rfl⟩
      rw [hX.out] at c0 c1 c2 HT
      clear hX
      have hJ1 : J (zs.take k) (wr.alloc (.cells #[.int .i64 X.1, .int .i64 X.2.1, .int .u8 X.2.2] 61)) := hJ _ _ _ none HJ.out (World.grownBy_alloc wr _ none) (fun r e => by cases e)
      have hnx1 : Below n₀ W (wr.alloc (.cells #[.int .i64 X.1, .int .i64 X.2.1, .int .u8 X.2.2] 61)) := hnx.alloc (Nat.le_trans hn0 hnx.size) _
      obtain ⟨fn, tmps, assign, body, hy, hR⟩ := hY _ X _ hJ1 (by rw [List.length_take]; omega)
      obtain ⟨x, y, z⟩ := X
      dsimp only [encR] at hy c0 c1 c2 hR hJ1 hnx1
      have HR := Lib.hid hR
      have HNX := Lib.hid hnx1
      have hbz : b < wr.heap.size := by have := hnx.size; omega
      clear hR hJ1 hnx1 hJ hY HJ
      gi_wp2
      refine HR.out.mono ?_
      rintro e W3 (⟨rfl, hJ3, hk3⟩ | ⟨rfl, hJx3⟩)
      · have HJ3 := Lib.hid hJ3
        clear hJ3
        gi_wp2
        go_roundw
        case rel => exact ⟨k + 1, by omega, by simp, by rw [HT.out]; exact HJ3.out, HNX.out.trans hk3⟩
        case measure => simp [intOf]; omega
      · have HJ3 := Lib.hid hJx3
        clear hJx3
        gi_wp2
        refine bodyPost_ret (results_none rfl _ _ _) rfl ?_
        exact ⟨⟨_, rfl⟩, .inr ⟨_, by rw [← HT.out]; exact HP.out, HJ3.out⟩⟩
    · obtain rfl : k = len := by omega
      gi_wp2
      go_end0
      exact ⟨⟨_, rfl⟩, .inl ⟨_, List.take_of_length_le (by have := HZ.out; omega), HJ.out⟩⟩
theorem thr_seq (F : Fence) (n : Nat) (hf : F.fn 50) (hro : F.round = none) (hn : 1 ≤ n) (Bs n₀ : Nat) (A : Option Addr) (len cap : Nat) (zs : List Rn) (hz : zs.length = len) (hbig : len ≤ 1000000) (w : World) (hBs : Bs < w.heap.size) (hn0 : n₀ ≤ w.heap.size)
    (hc : w.cell? ⟨Bs, 0, none⟩ = some (.slice A len cap)) (hs : RnAt w n₀ A zs) :
    SeqStopsK F n Tryd.prog 50 #[.pointer (some ⟨Bs, 0, none⟩)] encR (Below n₀) (fun ys => ys = zs) (fun pre => pre <+: zs) len w := fun l J Jx W hW hJ _ hY h0 =>
  thr_in F n hf hro hn l Bs n₀ W.heap.size A len cap zs hz hbig J Jx hJ hY W ((hW.cell (p := ⟨Bs, 0, none⟩) hBs).trans hc) (hs.below (hW.mono hn0) (Nat.le_refl _)) (Nat.le_trans hn0 hW.size) h0
end Go.Proofs.YthbjhpfgfpkppaaDoor
