/-
  ImapGets: the walk.
-/
import Derived.Test.YtegabfeabifbhaaIL
import Derived.Test.YtegabfeabifbhaaK5
namespace Go.Proofs.Ytegabfeabifbhaa
open Go Go.RowKit

set_option maxHeartbeats 8000000 in
set_option maxRecDepth 100000 in
theorem walk_ImapGets (A : Option Addr) (n c : Nat) (l : List Ac) (A' : Option Addr) (n' c' : Nat) (q : List Int) (w : World) (hn : l.length = n) (hmx : n ≤ maxLen) (hs : AcAt w w.heap.size A l) (hn' : q.length = n') (hmx' : n' ≤ maxLen) (hs' : InAt w w.heap.size A' q) :
    Calls Try.prog 4 #[.slice A n c, .slice A' n' c'] w fun e w' => e = .returned (.bool true) ∧ Below w.heap.size w w' := by
  have HS := Lib.hid hs
  have HN := Lib.hid hn
  have HS' := Lib.hid hs'
  have HN' := Lib.hid hn'
  clear hs hn hs' hn'
  unfold maxLen at hmx hmx'
  by_cases hbig : 40 < n ∨ 20 < n'
  · by_cases hb1 : 40 < n
    · have hb : (40 : Int) < (n : Int) := by omega
      clear hbig
      go_enter Try.func4, Try.ntmps4
      go_wp2_with fail
      with_reducible refine (alive_any _).mono ?_
      rintro e w1 ⟨rfl, hb1⟩
      go_wp2
      go_ret
      exact ⟨rfl, hb1⟩
    · have hb : ¬ ((40 : Int) < (n : Int)) := by omega
      have hb2 : (20 : Int) < (n' : Int) := by omega
      clear hbig
      go_enter Try.func4, Try.ntmps4
      go_wp2_with fail
      with_reducible refine (alive_any _).mono ?_
      rintro e w1 ⟨rfl, hb1⟩
      go_wp2
      go_ret
      exact ⟨rfl, hb1⟩
  · have hb : ¬ ((40 : Int) < (n : Int)) := by omega
    have hb2 : ¬ ((20 : Int) < (n' : Int)) := by omega
    have hn40 : n ≤ 40 := by omega
    have hn20 : n' ≤ 20 := by omega
    clear hbig
    go_enter Try.func4, Try.ntmps4
    go_wp2_with fail
    with_reducible refine (alive_any _).mono ?_
    rintro e w1 ⟨rfl, E1⟩
    go_wp2_with fail
    have hmd := made_any A n c l w1 HN.out (by omega) (HS.out.ext E1)
    with_reducible refine hmd.mono ?_
    rintro e w2 ⟨rfl, ⟨A2, n2, c2, hm2⟩, F2⟩
    clear hmd
    have E2 := Ext.tr E1 F2
    have hl2 := hm2.len
    have hle := actsI_len l (D := []) trivial
    have hGD := Lib.hid (actsI_good l (D := []) trivial)
    have hR := Lib.hid (fun p W (hW : Ext w2 W) => rget_any A n c l p W HN.out (by omega) (HS.out.ext (Ext.tr E2 hW)))
    generalize actsI [] l = D at *
    have hn2 : n2 ≤ 1000 := by have := HN.out; simp at hle; omega
    have M2 := Lib.hid hm2
    have hG := Lib.hid (fun p W (hW : Ext w2 W) => get_any _ A2 n2 c2 D p W (Lists.map (M2.out.ext hW).box.cell (M2.out.ext hW).box.lt) hl2 (by omega) hGD.out (M2.out.ext hW).at_)
    clear hm2 F2 hle
    go_wp2
    go_loopw [31] (fun i wr => ∃ k : Nat, k ≤ n' ∧ i = .int .i64 k ∧ Ext w2 wr) (fun i _ => n' - (intOf i).toNat)
    case atStart => exact ⟨0, Nat.zero_le _, rfl, Ext.rf _⟩
    case round =>
      obtain ⟨k, hk, rfl, hE⟩ := hrel
      by_cases hlt : k < n'
      · have hkl : k < q.length := by have := HN'.out; omega
        obtain ⟨b, o, rfl, hb0, hc⟩ := (HS'.out.below (Ext.tr E2 hE) (Ext.tr E2 hE).size) (by omega)
        have c0 := hc k hkl
        clear hc
        generalize q[k] = p at *
        have hG1 := Lib.hid (hG.out p wr hE)
        have hR1 := Lib.hid (hR.out p)
        generalize getI D p = G at *
        obtain ⟨gv, ga, gb, gi⟩ := G
        have q1 : (0 : Int) ≤ (k : Int) := by omega
        have q2 : (k : Int) < (n' : Int) := by omega
        go_wp2_with (first
          | (go_at_call 17; refine (Hid.out hG1).mono ?_; rintro e w3 ⟨rfl, F3⟩; have X3 := Ext.tr hE F3; have e4 : Ext w3 (w3.alloc (.cells #[.int .i64 ga, .int .i64 gb] 35)) := (Below.refl _ _).alloc (Nat.le_refl _) _; have X4 := Ext.tr X3 e4; have r4 : (w3.alloc (.cells #[.int .i64 ga, .int .i64 gb] 35)).heap[w3.heap.size]? = some (.cells #[.int .i64 ga, .int .i64 gb] 35 (0, 0)) := heap_alloc_new w3 _; have z4 : w3.heap.size < (w3.alloc (.cells #[.int .i64 ga, .int .i64 gb] 35)).heap.size := (by simp))
          | (go_at_call 18; refine (hR1.out _ X4).mono ?_; rintro e w5 ⟨rfl, F5⟩; have X5 := Lib.hid (Ext.tr X4 F5); have r5 := (F5.block _ z4).trans r4; have k0 : w5.cell? ⟨w3.heap.size, 0, none⟩ = some (.int .i64 ga) := (by simp [World.cell?, r5]); have k1 : w5.cell? ⟨w3.heap.size, 1, none⟩ = some (.int .i64 gb) := (by simp [World.cell?, r5]); have z5 : w3.heap.size < w5.heap.size := (Array.getElem?_eq_some_iff.1 r5).1; clear F5 r4 r5))
        go_roundw
        case rel => exact ⟨k + 1, by omega, by go_num, Ext.tr X5.out ((Below.refl _ _).alloc (Nat.le_refl _) _)⟩
        case measure => simp [intOf]; omega
      · obtain rfl : k = n' := by omega
        go_wp2
        go_ret
        exact ⟨rfl, Ext.tr E2 hE⟩
end Go.Proofs.Ytegabfeabifbhaa
