/-
  No conditions are right: Right of None.
-/
import Derived.Test.YtomcoacndppkcaaGreatDoorVA
import Derived.Test.YtomcoacndppkcaaGreatDoorUC
namespace Go.Proofs.YtomcoacndppkcaaGreatDoor
open Go Go.RowKit
open T (Tg TgAt okS)

theorem isTick_no (w : World) : Calls Tryz.prog 58 #[.int .i64 (-1)] w fun e w' => e = .returned (.bool false) ∧ w = w' := by
  go_enter Tryz.func58, Tryz.ntmps58
  go_wp2
  go_ret
  exact ⟨rfl, rfl⟩
set_option maxRecDepth 100000 in
set_option maxHeartbeats 1000000 in
theorem textM_any (w : World) :
    Calls Tryz.prog 28 #[.int .i64 (-1)] w fun e w' => e = .returned (.tuple #[.string ⟨#[]⟩, .int .i64 1]) ∧ Below w.heap.size w w' := by
  have hI := fun W => isTick_no W
  go_enter Tryz.func28, Tryz.ntmps28
  go_wp2_with (go_at_call 58; ((with_reducible refine (hI _).mono ?_); rintro e w' ⟨rfl, rfl⟩))
  go_ret2
  exact ⟨rfl, by go_grown⟩
theorem tickM_any (w : World) :
    Calls Tryz.prog 35 #[.int .i64 (-1)] w fun e w' => e = .returned (.bool true) ∧ Below w.heap.size w w' := by
  go_enter Tryz.func35, Tryz.ntmps35
  go_wp2_with (go_at_call 28; ((with_reducible refine (textM_any _).mono ?_); rintro e w1 ⟨rfl, hb1⟩))
  go_ret
  exact ⟨rfl, hb1⟩
theorem cd_cells {w W : World} {A B : Option Addr} {n c m d : Nat} {am an : Bool} {s u : Int} {rt : ByteArray} {rw : Bool}
    (h : Below (w.alloc (.cells #[.slice A n c, .slice B m d, .bool am, .bool an, .int .i64 s, .int .i64 u, .string rt, .bool rw] 29)).heap.size (w.alloc (.cells #[.slice A n c, .slice B m d, .bool am, .bool an, .int .i64 s, .int .i64 u, .string rt, .bool rw] 29)) W) :
    W.cell? ⟨w.heap.size, 0, none⟩ = some (.slice A n c) ∧ W.cell? ⟨w.heap.size, 1, none⟩ = some (.slice B m d) ∧ W.cell? ⟨w.heap.size, 2, none⟩ = some (.bool am) ∧ W.cell? ⟨w.heap.size, 3, none⟩ = some (.bool an) ∧ W.cell? ⟨w.heap.size, 4, none⟩ = some (.int .i64 s) ∧ W.cell? ⟨w.heap.size, 5, none⟩ = some (.int .i64 u) ∧ W.cell? ⟨w.heap.size, 6, none⟩ = some (.string rt) ∧ W.cell? ⟨w.heap.size, 7, none⟩ = some (.bool rw) ∧ w.heap.size < W.heap.size ∧ Below w.heap.size w W := by
  obtain ⟨hc, hz⟩ := two_cells rfl h
  exact ⟨hc 0, hc 1, hc 2, hc 3, hc 4, hc 5, hc 6, hc 7, hz, Ext.tr ((Below.refl _ _).alloc (Nat.le_refl _) _) h⟩
set_option maxHeartbeats 4000000 in
theorem rightNone_any (w : World) :
    Calls Tryz.prog 13 #[cdV none none 0 0 0 0 false false (-1) (-1) ⟨#[]⟩ false] w fun e w' => e = .returned (.bool true) ∧ Below w.heap.size w w' := by
  have hT : ∀ W, Calls Tryz.prog 34 #[.slice none 0 0, .bool false] W fun e w' => e = .returned (.bool true) ∧ Below W.heap.size W w' := fun W =>
    rightTags_any none 0 0 [] false W rfl (Nat.zero_le _) (fun x hx => absurd hx (by simp)) (fun h => absurd h (by simp))
  go_enter Tryz.func13, Tryz.ntmps13
  go_wp2_with fail
  with_reducible refine (hT _).mono ?_
  rintro e w1 ⟨rfl, hb1⟩
  obtain ⟨x0, x1, x2, x3, x4, x5, x6, x7, z, B1⟩ := cd_cells hb1
  go_wp2_with fail
  with_reducible refine (hT _).mono ?_
  rintro e w2 ⟨rfl, hb2⟩
  have C2 := hb1.trans (hb2.mono hb1.size)
  obtain ⟨x0, x1, x2, x3, x4, x5, x6, x7, z, B2⟩ := cd_cells C2
  go_wp2_with fail
  with_reducible refine (tickM_any _).mono ?_
  rintro e w3 ⟨rfl, hb3⟩
  have C3 := C2.trans (hb3.mono C2.size)
  obtain ⟨x0, x1, x2, x3, x4, x5, x6, x7, z, B3⟩ := cd_cells C3
  go_wp2_with fail
  with_reducible refine (tickM_any _).mono ?_
  rintro e w4 ⟨rfl, hb4⟩
  have C4 := C3.trans (hb4.mono C3.size)
  obtain ⟨x0, x1, x2, x3, x4, x5, x6, x7, z, B4⟩ := cd_cells C4
  go_wp2_with fail
  go_ret
  exact ⟨rfl, B4⟩
end Go.Proofs.YtomcoacndppkcaaGreatDoor
