/-
  ImapRuns: the walk.
-/
import Derived.Test.YtegabfeabifbhaaIL
import Derived.Test.YtegabfeabifbhaaK4
namespace Go.Proofs.Ytegabfeabifbhaa
open Go Go.RowKit

set_option maxHeartbeats 8000000 in
set_option maxRecDepth 100000 in
theorem walk_ImapRuns (A : Option Addr) (n c : Nat) (l : List Ac) (w : World) (hn : l.length = n) (hmx : n ≤ maxLen) (hs : AcAt w w.heap.size A l) :
    Calls Try.prog 3 #[.slice A n c] w fun e w' => e = .returned (.bool true) ∧ Below w.heap.size w w' := by
  have HS := Lib.hid hs
  have HN := Lib.hid hn
  clear hs hn
  have hmx' := hmx
  unfold maxLen at hmx'
  by_cases hbig : 40 < n
  · have hb : (40 : Int) < (n : Int) := by omega
    go_enter Try.func3, Try.ntmps3
    go_wp2_with fail
    with_reducible refine (alive_any _).mono ?_
    rintro e w1 ⟨rfl, hb1⟩
    go_wp2
    go_ret
    exact ⟨rfl, hb1⟩
  · have hb : ¬ ((40 : Int) < (n : Int)) := by omega
    go_enter Try.func3, Try.ntmps3
    go_wp2_with fail
    with_reducible refine (alive_any _).mono ?_
    rintro e w1 ⟨rfl, E1⟩
    go_wp2_with fail
    have hmd := made_any A n c l w1 HN.out (by omega) (HS.out.ext E1)
    with_reducible refine hmd.mono ?_
    rintro e w2 ⟨rfl, ⟨A2, n2, c2, hm2⟩, F2⟩
    clear hmd
    have E2 := Ext.tr E1 F2
    have hl2 := hm2.len
    have hle := actsI_len l (D := []) trivial
    have hR := runs_any A n c l w2 HN.out (by omega) (HS.out.ext E2)
    generalize actsI [] l = D at *
    have hmz := hm2.box.lt
    have M2 := Lib.hid hm2
    have hn2 : n2 ≤ 1000 := by have := HN.out; simp at hle; omega
    clear hm2 F2 hle
    go_wp2_with fail
    with_reducible refine hR.mono ?_
    rintro e w3 ⟨v3, rfl, own3, F3⟩
    clear hR
    obtain ⟨A3, n3, c3, rfl⟩ := own_slice own3
    obtain ⟨hl3, hat3⟩ := RnAt.ownQ own3
    obtain rfl : n3 = n2 := by omega
    have AT3 := Lib.hid hat3
    have M3 := Lib.hid (M2.out.ext F3)
    have E3 := Ext.tr E2 F3
    clear own3 hat3 F3 E2 M2
    have hLn := Lib.hid (len_map _ A2 n3 c2 w3 (Lists.map M3.out.box.cell M3.out.box.lt))
    have hAl := Lib.hid (all_any _ A2 n3 c2 D w3 (Lists.map M3.out.box.cell M3.out.box.lt) hl2 (by omega) M3.out.at_)
    have hSm := Lib.hid (fun (W : World) (hW : Ext w3 W) (A4 : Option Addr) (n4 c4 : Nat) (h4 : D.length = n4) (hat : RnAt W W.heap.size A4 D) => same_q A4 A3 n4 c4 n3 c3 D D W h4 hl3 (by omega) hat (AT3.out.ext hW))
    go_wp2_with (first
      | (go_at_call 14; refine (Hid.out hLn).mono ?_; rintro e w4 ⟨rfl, rfl⟩)
      | (go_at_call 16; refine (Hid.out hAl).mono ?_; rintro e w5 ⟨A4, n4, c4, rfl, h4, hat, F5⟩; have X5 := Ext.tr E3 F5)
      | (go_at_call 15; refine (hSm.out _ F5 _ _ _ h4 hat).mono ?_; rintro e w6 ⟨rfl, F6⟩; have X6 := Ext.tr X5 F6))
    go_ret
    exact ⟨by simp, X6⟩
end Go.Proofs.Ytegabfeabifbhaa
