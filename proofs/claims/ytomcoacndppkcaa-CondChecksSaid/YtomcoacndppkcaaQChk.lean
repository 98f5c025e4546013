/-
  The walk of CondChecks.
-/
import Derived.Test.YtomcoacndppkcaaUD
namespace Go.Proofs.Ytomcoacndppkcaa
open Go Go.RowKit
open T (Tg TgAt)

set_option maxHeartbeats 16000000 in
set_option maxRecDepth 100000 in
theorem walk_CondChecks (hd : Bool) (ob : ByteArray) (S : Option Addr) (ns sc : Nat) (A B : Option Addr) (n c m d : Nat) (am an : Bool) (s u : Int) (rt : ByteArray) (rw : Bool) (l1 l2 : List Tg) (tt : ByteArray) (tw : Bool) (md ln hv f1 f2 f3 : Int) (K : Option Addr) (kn kc : Nat) (tn : ByteArray) (kp : Bool) (there : Bool) (w : World) (h : TwoArg w A B n m l1 l2) (hr : rt.size ≤ T.szM) (ht : tt.size ≤ T.szM) :
    Calls Try.prog 3 #[rqV hd ob S ns sc A B n c m d am an s u rt rw, mdV tt tw md ln hv f1 f2 f3 K kn kc tn kp, .bool there] w fun e w' => e = .returned (.bool true) ∧ Below w.heap.size w w' := by
  have HH := Lib.hid h
  clear h
  have FB0 : Below w.heap.size w ((w.alloc (.cells #[.bool hd, .string ob, .slice S ns sc, .slice A n c, .slice B m d, .bool am, .bool an, .int .i64 s, .int .i64 u, .string rt, .bool rw] 29)).alloc (.cells #[.string tt, .bool tw, .int .i64 md, .int .i64 ln, .int .i64 hv, .int .i64 f1, .int .i64 f2, .int .i64 f3, .slice K kn kc, .string tn, .bool kp] 32)) := by go_grown
  have hFW : ∀ W, Below w.heap.size w W → Calls Try.prog 6 #[cdV A B n c m d am an s u rt rw] W fun e w' => e = .returned (.bool (fewD l1 l2 rt.size)) ∧ Below W.heap.size W w' :=
    fun W e => few_any A B n c m d am an s u rt rw l1 l2 W (HH.out.below e) hr
  cases hf : fewD l1 l2 rt.size with
  | false =>
    rw [hf] at hFW
    clear hf
    go_enter Try.func3, Try.ntmps3
    go_wp2_with (first
      | (go_at_call 6; with_reducible refine (hFW _ FB0).mono ?_; rintro e w1 ⟨rfl, hb1⟩; obtain ⟨x0, x1, x2, x3, x4, x5, x6, x7, x8, x9, x10, y0, y1, y2, y3, y4, y5, y6, y7, y8, y9, y10, z1, z2, B1⟩ := rq_md hb1)
      | (go_at_call 7; with_reducible refine (awake_any _).mono ?_; rintro e w2 ⟨rfl, hb2⟩))
    go_ret
    exact ⟨rfl, B1.trans (hb2.mono B1.size)⟩
  | true =>
  rw [hf] at hFW
  by_cases h70 : ns > 70
  · clear hf
    go_enter Try.func3, Try.ntmps3
    go_wp2_with (first
      | (go_at_call 6; with_reducible refine (hFW _ FB0).mono ?_; rintro e w1 ⟨rfl, hb1⟩; obtain ⟨x0, x1, x2, x3, x4, x5, x6, x7, x8, x9, x10, y0, y1, y2, y3, y4, y5, y6, y7, y8, y9, y10, z1, z2, B1⟩ := rq_md hb1)
      | (go_at_call 7; with_reducible refine (awake_any _).mono ?_; rintro e w2 ⟨rfl, hb2⟩))
    go_ret
    exact ⟨rfl, B1.trans (hb2.mono B1.size)⟩
  have HT := Lib.hid (HH.out.two hf)
  clear hf
  have hA : ∀ W, Below w.heap.size w W → Calls Try.prog 8 #[rqV hd ob S ns sc A B n c m d am an s u rt rw, mdV tt tw md ln hv f1 f2 f3 K kn kc tn kp, .bool there] W fun e w' => e = .returned (.int .i64 (cmD n m l1 l2 am an s u (rt, rw) (tt, tw) md ln ns there)) ∧ Below W.heap.size W w' :=
    fun W e => check_any hd ob S ns sc A B n c m d am an s u rt rw tt tw md ln hv f1 f2 f3 K kn kc tn kp there l1 l2 W (HT.out.below e) (T.szM_max ht) (T.szM_max hr)
  have hB : ∀ W, Below w.heap.size w W → Calls Try.prog 9 #[rqV hd ob S ns sc A B n c m d am an s u rt rw, mdV tt tw md ln hv f1 f2 f3 K kn kc tn kp, .bool there] W fun e w' => e = .returned (.int .i64 (cmD n m l1 l2 am an s u (rt, rw) (tt, tw) md ln ns there)) ∧ Below W.heap.size W w' :=
    fun W e => rcheck_any hd ob S ns sc A B n c m d am an s u rt rw tt tw md ln hv f1 f2 f3 K kn kc tn kp there l1 l2 W (HT.out.below e) (T.szM_max ht) (T.szM_max hr)
  generalize cmD n m l1 l2 am an s u (rt, rw) (tt, tw) md ln ns there = X at *
  have u1 : (X == X) = true := by simp
  clear HT HH hr ht
  go_enter Try.func3, Try.ntmps3
  go_wp2_with (go_at_call 6; with_reducible refine (hFW _ FB0).mono ?_; rintro e w1 ⟨rfl, hb1⟩; obtain ⟨x0, x1, x2, x3, x4, x5, x6, x7, x8, x9, x10, y0, y1, y2, y3, y4, y5, y6, y7, y8, y9, y10, z1, z2, B1⟩ := rq_md hb1)
  replace hA : ∀ W, Ext w1 W → Calls Try.prog 8 #[rqV hd ob S ns sc A B n c m d am an s u rt rw, mdV tt tw md ln hv f1 f2 f3 K kn kc tn kp, .bool there] W fun e w' => e = .returned (.int .i64 X) ∧ Below W.heap.size W w' := fun W e => hA W (Ext.tr B1 e)
  replace hB : ∀ W, Ext w1 W → Calls Try.prog 9 #[rqV hd ob S ns sc A B n c m d am an s u rt rw, mdV tt tw md ln hv f1 f2 f3 K kn kc tn kp, .bool there] W fun e w' => e = .returned (.int .i64 X) ∧ Below W.heap.size W w' := fun W e => hB W (Ext.tr B1 e)
  have gx0 : ∀ W, Ext w1 W → W.cell? ⟨w.heap.size, 0, none⟩ = some (.bool hd) := fun W h => by rw [h.cell (p := ⟨w.heap.size, 0, none⟩) z1]; exact x0
  have gx1 : ∀ W, Ext w1 W → W.cell? ⟨w.heap.size, 1, none⟩ = some (.string ob) := fun W h => by rw [h.cell (p := ⟨w.heap.size, 1, none⟩) z1]; exact x1
  have gx2 : ∀ W, Ext w1 W → W.cell? ⟨w.heap.size, 2, none⟩ = some (.slice S ns sc) := fun W h => by rw [h.cell (p := ⟨w.heap.size, 2, none⟩) z1]; exact x2
  have gx3 : ∀ W, Ext w1 W → W.cell? ⟨w.heap.size, 3, none⟩ = some (.slice A n c) := fun W h => by rw [h.cell (p := ⟨w.heap.size, 3, none⟩) z1]; exact x3
  have gx4 : ∀ W, Ext w1 W → W.cell? ⟨w.heap.size, 4, none⟩ = some (.slice B m d) := fun W h => by rw [h.cell (p := ⟨w.heap.size, 4, none⟩) z1]; exact x4
  have gx5 : ∀ W, Ext w1 W → W.cell? ⟨w.heap.size, 5, none⟩ = some (.bool am) := fun W h => by rw [h.cell (p := ⟨w.heap.size, 5, none⟩) z1]; exact x5
  have gx6 : ∀ W, Ext w1 W → W.cell? ⟨w.heap.size, 6, none⟩ = some (.bool an) := fun W h => by rw [h.cell (p := ⟨w.heap.size, 6, none⟩) z1]; exact x6
  have gx7 : ∀ W, Ext w1 W → W.cell? ⟨w.heap.size, 7, none⟩ = some (.int .i64 s) := fun W h => by rw [h.cell (p := ⟨w.heap.size, 7, none⟩) z1]; exact x7
  have gx8 : ∀ W, Ext w1 W → W.cell? ⟨w.heap.size, 8, none⟩ = some (.int .i64 u) := fun W h => by rw [h.cell (p := ⟨w.heap.size, 8, none⟩) z1]; exact x8
  have gx9 : ∀ W, Ext w1 W → W.cell? ⟨w.heap.size, 9, none⟩ = some (.string rt) := fun W h => by rw [h.cell (p := ⟨w.heap.size, 9, none⟩) z1]; exact x9
  have gx10 : ∀ W, Ext w1 W → W.cell? ⟨w.heap.size, 10, none⟩ = some (.bool rw) := fun W h => by rw [h.cell (p := ⟨w.heap.size, 10, none⟩) z1]; exact x10
  have gy0 : ∀ W, Ext w1 W → W.cell? ⟨w.heap.size + 1, 0, none⟩ = some (.string tt) := fun W h => by rw [h.cell (p := ⟨w.heap.size + 1, 0, none⟩) z2]; exact y0
  have gy1 : ∀ W, Ext w1 W → W.cell? ⟨w.heap.size + 1, 1, none⟩ = some (.bool tw) := fun W h => by rw [h.cell (p := ⟨w.heap.size + 1, 1, none⟩) z2]; exact y1
  have gy2 : ∀ W, Ext w1 W → W.cell? ⟨w.heap.size + 1, 2, none⟩ = some (.int .i64 md) := fun W h => by rw [h.cell (p := ⟨w.heap.size + 1, 2, none⟩) z2]; exact y2
  have gy3 : ∀ W, Ext w1 W → W.cell? ⟨w.heap.size + 1, 3, none⟩ = some (.int .i64 ln) := fun W h => by rw [h.cell (p := ⟨w.heap.size + 1, 3, none⟩) z2]; exact y3
  have gy4 : ∀ W, Ext w1 W → W.cell? ⟨w.heap.size + 1, 4, none⟩ = some (.int .i64 hv) := fun W h => by rw [h.cell (p := ⟨w.heap.size + 1, 4, none⟩) z2]; exact y4
  have gy5 : ∀ W, Ext w1 W → W.cell? ⟨w.heap.size + 1, 5, none⟩ = some (.int .i64 f1) := fun W h => by rw [h.cell (p := ⟨w.heap.size + 1, 5, none⟩) z2]; exact y5
  have gy6 : ∀ W, Ext w1 W → W.cell? ⟨w.heap.size + 1, 6, none⟩ = some (.int .i64 f2) := fun W h => by rw [h.cell (p := ⟨w.heap.size + 1, 6, none⟩) z2]; exact y6
  have gy7 : ∀ W, Ext w1 W → W.cell? ⟨w.heap.size + 1, 7, none⟩ = some (.int .i64 f3) := fun W h => by rw [h.cell (p := ⟨w.heap.size + 1, 7, none⟩) z2]; exact y7
  have gy8 : ∀ W, Ext w1 W → W.cell? ⟨w.heap.size + 1, 8, none⟩ = some (.slice K kn kc) := fun W h => by rw [h.cell (p := ⟨w.heap.size + 1, 8, none⟩) z2]; exact y8
  have gy9 : ∀ W, Ext w1 W → W.cell? ⟨w.heap.size + 1, 9, none⟩ = some (.string tn) := fun W h => by rw [h.cell (p := ⟨w.heap.size + 1, 9, none⟩) z2]; exact y9
  have gy10 : ∀ W, Ext w1 W → W.cell? ⟨w.heap.size + 1, 10, none⟩ = some (.bool kp) := fun W h => by rw [h.cell (p := ⟨w.heap.size + 1, 10, none⟩) z2]; exact y10
  clear hb1 FB0 hFW x0 x1 x2 x3 x4 x5 x6 x7 x8 x9 x10 y0 y1 y2 y3 y4 y5 y6 y7 y8 y9 y10
  refine' wp_region_made (rels := relsOf ((.val _) :: (.val _) :: (.val _) :: (.val _) :: (.val _) :: (.val _) :: (.val _) :: (.val _) :: (.val _) :: (.val _) :: (.val _) :: (.val _) :: (.val _) :: [])) (w := w1) 30 (by kernel_rfl) (by kernel_rfl) (by rfl) (relsOf_stable ?stq) ?wkq
  case stq => exact stable_val (stable_val (stable_val (stable_val (stable_val (stable_val (stable_val (stable_val (stable_val (stable_val (stable_val (stable_val (stable_val (stable_nil)))))))))))))
  case wkq =>
    refine' walk_val (by rfl) ?aq0 (fun K hK => ?bq0); (case aq0 => (intro W hW hd; clear hd; go_simp; first | exact ⟨Ext.rf _, rfl⟩ | rfl)); (go_simp; refine hK _ ?_; clear hK K)
    refine' walk_val (by rfl) ?aq1 (fun K hK => ?bq1); (case aq1 => (intro W hW hd; clear hd; go_simp; first | exact ⟨Ext.rf _, rfl⟩ | rfl)); (go_simp; refine hK _ ?_; clear hK K)
    refine' walk_val (by rfl) ?aq2 (fun K hK => ?bq2); (case aq2 => (intro W hW hd; clear hd; go_simp; first | exact ⟨Ext.rf _, rfl⟩ | rfl)); (go_simp; refine hK _ ?_; clear hK K)
    refine' walk_val (by rfl) ?aq3 (fun K hK => ?bq3); (case aq3 => (intro W hW hd; go_simp; (clear hd; exact makes_val (hA W hW)))); (go_simp; refine hK _ ?_; clear hK K)
    refine' walk_val (by rfl) ?aq4 (fun K hK => ?bq4); (case aq4 => (intro W hW hd; clear hd; go_simp; first | exact ⟨Ext.rf _, rfl⟩ | rfl)); (go_simp; refine hK _ ?_; clear hK K)
    refine' walk_val (by rfl) ?aq5 (fun K hK => ?bq5); (case aq5 => (intro W hW hd; clear hd; go_simp; first | exact ⟨Ext.rf _, rfl⟩ | rfl)); (go_simp; refine hK _ ?_; clear hK K)
    refine' walk_val (by rfl) ?aq6 (fun K hK => ?bq6); (case aq6 => (intro W hW hd; clear hd; go_simp; first | exact ⟨Ext.rf _, rfl⟩ | rfl)); (go_simp; refine hK _ ?_; clear hK K)
    refine' walk_val (by rfl) ?aq7 (fun K hK => ?bq7); (case aq7 => (intro W hW hd; go_simp; (clear hd; exact makes_val (hB W hW)))); (go_simp; refine hK _ ?_; clear hK K)
    refine' walk_val (by rfl) ?aq8 (fun K hK => ?bq8); (case aq8 => (intro W hW hd; clear hd; go_simp; first | exact ⟨Ext.rf _, rfl⟩ | rfl)); (go_simp; refine hK _ ?_; clear hK K)
    refine' walk_val (by rfl) ?aq9 (fun K hK => ?bq9); (case aq9 => (intro W hW hd; clear hd; go_simp; first | exact ⟨Ext.rf _, rfl⟩ | rfl)); (go_simp; refine hK _ ?_; clear hK K)
    refine' walk_val (by rfl) ?aq10 (fun K hK => ?bq10); (case aq10 => (intro W hW hd; go_simp; (clear hd; exact makes_val (awake_any W)))); (go_simp; refine hK _ ?_; clear hK K)
    refine' walk_val (by rfl) ?aq11 (fun K hK => ?bq11); (case aq11 => (intro W hW hd; clear hd; go_simp; first | exact ⟨Ext.rf _, rfl⟩ | rfl)); (go_simp; refine hK _ ?_; clear hK K)
    refine' walk_val (by rfl) ?aq12 (fun K hK => ?bq12); (case aq12 => (intro W hW hd; clear hd; go_simp; first | exact ⟨Ext.rf _, rfl⟩ | rfl)); (go_simp; refine hK _ ?_; clear hK K)
    refine walk_end (fun W hW hfin => ?_)
    have B6 : Ext w W := Ext.tr B1 hW
    clear hfin
    go_wp2
    go_ret
    exact ⟨rfl, B6⟩
end Go.Proofs.Ytomcoacndppkcaa
