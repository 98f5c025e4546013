/-
  The text of a tick, of both.
-/
import Derived.Test.YtomcoacndppkcaaGreatDoorDX
namespace Go.Proofs.YtomcoacndppkcaaGreatDoor.D
open Go Go.RowKit
open Go.Sort (grow)

def txV (t : Int) : ByteArray := if inT t = true then txB t else ⟨#[]⟩
def txE (t : Int) : Int := if inT t = true then 0 else 1
/-- what Text hands back -/
def txR (t : Int) : Value := .tuple #[.string (txV t), .int .i64 (txE t)]
theorem txR_no {t : Int} (h : inT t = false) : txR t = .tuple #[.string ⟨#[]⟩, .int .i64 1] := by unfold txR txV txE; rw [h]; rfl
theorem txR_yes {t : Int} (h : inT t = true) : txR t = .tuple #[.string (txB t), .int .i64 0] := by unfold txR txV txE; rw [h]; rfl
def wksB : ByteArray := ⟨#[83, 117, 110, 77, 111, 110, 84, 117, 101, 87, 101, 100, 84, 104, 117, 70, 114, 105, 83, 97, 116]⟩
def mosB : ByteArray := ⟨#[74, 97, 110, 70, 101, 98, 77, 97, 114, 65, 112, 114, 77, 97, 121, 74, 117, 110, 74, 117, 108, 65, 117, 103, 83, 101, 112, 79, 99, 116, 78, 111, 118, 68, 101, 99]⟩
theorem weeks_any (w : World) : Calls Tryz.prog 63 #[] w fun e w' => e = .returned (.string wksB) ∧ w' = w := by
  have HF : Hid (Ending.returned (.string ⟨#[83, 117, 110, 77, 111, 110, 84, 117, 101, 87, 101, 100, 84, 104, 117, 70, 114, 105, 83, 97, 116]⟩) = .returned (.string wksB)) := Lib.hid rfl
  go_enter Tryz.func63, Tryz.ntmps63
  go_wp2
  go_ret
  exact ⟨HF.out, rfl⟩
theorem months_any (w : World) : Calls Tryz.prog 65 #[] w fun e w' => e = .returned (.string mosB) ∧ w' = w := by
  have HF : Hid (Ending.returned (.string ⟨#[74, 97, 110, 70, 101, 98, 77, 97, 114, 65, 112, 114, 77, 97, 121, 74, 117, 110, 74, 117, 108, 65, 117, 103, 83, 101, 112, 79, 99, 116, 78, 111, 118, 68, 101, 99]⟩) = .returned (.string mosB)) := Lib.hid rfl
  go_enter Tryz.func65, Tryz.ntmps65
  go_wp2
  go_ret
  exact ⟨HF.out, rfl⟩
theorem wks_cut : ∀ j : Nat, j < 7 → wksB.extract (3 * j) (3 * j + 3) = wkB j := by decide +kernel
theorem mos_cut : ∀ k : Nat, k < 12 → mosB.extract (3 * k) (3 * k + 3) = moB ((k : Int) + 1) := by decide +kernel
theorem wkB_size (w : Int) : (wkB w).size = 3 := by obtain ⟨a, b, c, h⟩ := wkB_three w; rw [h]; rfl
theorem moB_size (w : Int) : (moB w).size = 3 := by obtain ⟨a, b, c, h⟩ := moB_three w; rw [h]; rfl
theorem ret_tx {a b : ByteArray} {i : Int} (h : a = b) : Ending.returned (.tuple #[.string a, .int .i64 i]) = .returned (.tuple #[.string b, .int .i64 i]) := by rw [h]
theorem below_same {f : FuncId} {args : Array Value} {W : World} {c : Value} {P : Program} (h : Calls P f args W fun e w' => e = .returned c ∧ w' = W) : Calls P f args W fun e w' => e = .returned c ∧ Below W.heap.size W w' :=
  h.mono fun _ _ ⟨a, b⟩ => ⟨a, b ▸ Below.refl _ _⟩

set_option maxRecDepth 100000 in
set_option maxHeartbeats 8000000 in
theorem text_yes (t : Int) (w : World) (h : inT t = true) (hw : LaidD w) :
    Calls Tryz.prog 28 #[.int .i64 t] w fun e w' => e = .returned (txR t) ∧ Below w.heap.size w w' := by
  have HF := Lib.hid (txR_yes h)
  have hI := fun W => isTick_any t W
  have hO := of_any t w hw
  rw [ofR_yes h] at hO
  rw [h] at hI
  obtain ⟨h0, h9⟩ := inT_iff.1 h
  clear h
  obtain ⟨hr, hnum⟩ := of_num (n := t / 86400) (by omega) (by omega)
  clear hnum
  obtain ⟨p1, p2, p3, p4, p5, p6⟩ := rd_iff.1 hr
  have pm := mdays_bd (yO (t / 86400)) (mO (t / 86400))
  clear hr
  have HT : Hid (txB t = wkB ((t / 86400 + 4) % 7) ++ ⟨#[44, 32]⟩ ++ d2B (dO (t / 86400)) ++ ⟨#[32]⟩ ++ moB (mO (t / 86400)) ++ ⟨#[32]⟩ ++ (d2B (yO (t / 86400) / 100) ++ d2B (yO (t / 86400) % 100)) ++ ⟨#[32]⟩ ++ (d2B (t % 86400 / 3600) ++ ⟨#[58]⟩ ++ d2B (t % 86400 / 60 % 60) ++ ⟨#[58]⟩ ++ d2B (t % 86400 % 60)) ++ ⟨#[32, 71, 77, 84]⟩) :=
    Lib.hid (by unfold txB textB; simp only [ByteArray.append_assoc])
  have hd2 : ∀ W, Ext w W → Calls Tryz.prog 60 #[.int .i64 (dO (t / 86400)), .int .i64 2] W fun e w' => e = .returned (.string (d2B (dO (t / 86400)))) ∧ Below W.heap.size W w' := fun W _ => by
    obtain ⟨i, hi⟩ : ∃ i : Nat, dO (t / 86400) = i := ⟨(dO (t / 86400)).toNat, by omega⟩
    rw [hi]; exact below_same (digits2_any i W (by omega))
  have hd4 : ∀ W, Ext w W → Calls Tryz.prog 60 #[.int .i64 (yO (t / 86400)), .int .i64 4] W fun e w' => e = .returned (.string (d2B (yO (t / 86400) / 100) ++ d2B (yO (t / 86400) % 100))) ∧ Below W.heap.size W w' := fun W hW => by
    obtain ⟨i, hi⟩ : ∃ i : Nat, yO (t / 86400) = i := ⟨(yO (t / 86400)).toNat, by omega⟩
    rw [hi]; exact digits4_any i W (by omega) (by omega) (hw.below hW)
  obtain ⟨j, hj, j7⟩ : ∃ j : Nat, (t / 86400 + 4) % 7 = j ∧ j < 7 := ⟨((t / 86400 + 4) % 7).toNat, by omega, by omega⟩
  obtain ⟨k, hk, k12⟩ : ∃ k : Nat, mO (t / 86400) = (k : Int) + 1 ∧ k < 12 := ⟨(mO (t / 86400) - 1).toNat, by omega, by omega⟩
  rw [hj] at hO HT
  have kW : ∀ W, Ext w W → W.cell? ⟨0, j, none⟩ = some (.string (wkB j)) := fun W hW => (hw.below hW).wk j j7
  have kM : ∀ W, Ext w W → W.cell? ⟨1, k, none⟩ = some (.string (moB (mO (t / 86400)))) := fun W hW => by rw [hk]; exact (hw.below hW).mo k k12
  have sk : IntKind.i64.wrap (mO (t / 86400) - 1) = (k : Int) := by rw [IntWalk.i64_in _ (by omega)]; omega
  have s0 : 0 ≤ t % 86400 := by omega
  have s9 : t % 86400 < 86400 := by omega
  have hc : ∀ (i : Int) (W : World), 0 ≤ i → i ≤ 99 → Calls Tryz.prog 60 #[.int .i64 i, .int .i64 2] W fun e w' => e = .returned (.string (d2B i)) ∧ w' = W := fun i W i0 i9 => by
    obtain ⟨u, hu⟩ : ∃ u : Nat, i = u := ⟨i.toNat, by omega⟩
    rw [hu]; exact digits2_any u W (by omega)
  have e1 : t % 86400 % 3600 / 60 = t % 86400 / 60 % 60 := by omega
  have HE := Lib.hid e1
  clear hj hk hw p3 p4 e1
  generalize yO (t / 86400) = Y at *
  generalize mO (t / 86400) = M at *
  generalize dO (t / 86400) = D at *
  generalize t % 86400 = s at *
  have z1 : (d2B (Y / 100) ++ d2B (Y % 100)).size = 4 := by rw [ByteArray.size_append]; rfl
  have z2 := wkB_size (j : Int)
  have z3 := moB_size M
  have z4 := d2_size D
  generalize d2B (Y / 100) ++ d2B (Y % 100) = YS at *
  generalize wkB (j : Int) = WS at *
  generalize moB M = MS at *
  generalize hDS : d2B D = DS at *
  clear hDS
  have j7' : (j : Int) < 7 := by omega
  have j0' : (0 : Int) ≤ (j : Int) := by omega
  have k12' : (k : Int) < 12 := by omega
  have k0' : (0 : Int) ≤ (k : Int) := by omega
  clear pm
  go_enter Tryz.func28, Tryz.ntmps28
  go_wp2_with (first | (go_at_call 58; ((with_reducible refine (hI _).mono ?_); rintro e w' ⟨rfl, rfl⟩)) | (go_at_call 59; ((with_reducible refine hO.mono ?_); rintro e w1 ⟨rfl, hb1⟩)))
  have E1 : Ext w (w1.alloc (.cells #[.int .i64 Y, .int .i64 M, .int .i64 D, .int .i64 j] 83)) := Ext.tr hb1 ((Below.refl _ _).alloc (Nat.le_refl _) _)
  have g0 : ∀ W, Ext (w1.alloc (.cells #[.int .i64 Y, .int .i64 M, .int .i64 D, .int .i64 j] 83)) W → W.cell? ⟨w1.heap.size, 0, none⟩ = some (.int .i64 Y) := fun W h => by rw [h.cell (p := ⟨w1.heap.size, 0, none⟩) (by show w1.heap.size < (w1.alloc _).heap.size; simp)]; go_simp
  have g1 : ∀ W, Ext (w1.alloc (.cells #[.int .i64 Y, .int .i64 M, .int .i64 D, .int .i64 j] 83)) W → W.cell? ⟨w1.heap.size, 1, none⟩ = some (.int .i64 M) := fun W h => by rw [h.cell (p := ⟨w1.heap.size, 1, none⟩) (by show w1.heap.size < (w1.alloc _).heap.size; simp)]; go_simp
  have g2 : ∀ W, Ext (w1.alloc (.cells #[.int .i64 Y, .int .i64 M, .int .i64 D, .int .i64 j] 83)) W → W.cell? ⟨w1.heap.size, 2, none⟩ = some (.int .i64 D) := fun W h => by rw [h.cell (p := ⟨w1.heap.size, 2, none⟩) (by show w1.heap.size < (w1.alloc _).heap.size; simp)]; go_simp
  have g3 : ∀ W, Ext (w1.alloc (.cells #[.int .i64 Y, .int .i64 M, .int .i64 D, .int .i64 j] 83)) W → W.cell? ⟨w1.heap.size, 3, none⟩ = some (.int .i64 j) := fun W h => by rw [h.cell (p := ⟨w1.heap.size, 3, none⟩) (by show w1.heap.size < (w1.alloc _).heap.size; simp)]; go_simp
  have gW : ∀ W, Ext (w1.alloc (.cells #[.int .i64 Y, .int .i64 M, .int .i64 D, .int .i64 j] 83)) W → W.cell? ⟨0, j, none⟩ = some (.string WS) := fun W h => kW W (Ext.tr E1 h)
  have gM : ∀ W, Ext (w1.alloc (.cells #[.int .i64 Y, .int .i64 M, .int .i64 D, .int .i64 j] 83)) W → W.cell? ⟨1, k, none⟩ = some (.string MS) := fun W h => kM W (Ext.tr E1 h)
  clear kW kM hI hO
  generalize w1.alloc (.cells #[.int .i64 Y, .int .i64 M, .int .i64 D, .int .i64 j] 83) = w2 at *
  refine' wp_region_made (rels := relsOf ((.val _) :: (.val _) :: (.val _) :: (.val _) :: (.val _) :: (.val _) :: (.val _) :: (.val _) :: (.val _) :: (.val _) :: (.val _) :: (.val _) :: (.val _) :: (.val _) :: (.val _) :: (.val _) :: (.val _) :: (.val _) :: (.val _) :: (.val _) :: (.val _) :: (.val _) :: [])) (w := w2) 56 (by kernel_rfl) (by kernel_rfl) (by rfl) (relsOf_stable ?sta) ?wka
  case sta => exact stable_val (stable_val (stable_val (stable_val (stable_val (stable_val (stable_val (stable_val (stable_val (stable_val (stable_val (stable_val (stable_val (stable_val (stable_val (stable_val (stable_val (stable_val (stable_val (stable_val (stable_val (stable_val (stable_nil))))))))))))))))))))))
  case wka =>
    refine' walk_val (by rfl) ?aa0 (fun K hK => ?ba0); (case aa0 => (intro W hW hd; clear hd; go_simp; first | exact ⟨Ext.rf _, rfl⟩ | rfl)); (go_simp; refine hK _ ?_; clear hK K)
    refine' walk_val (by rfl) ?aa1 (fun K hK => ?ba1); (case aa1 => (intro W hW hd; clear hd; go_simp; first | exact ⟨Ext.rf _, rfl⟩ | rfl)); (go_simp; refine hK _ ?_; clear hK K)
    refine' walk_val (by rfl) ?aa2 (fun K hK => ?ba2); (case aa2 => (intro W hW hd; clear hd; go_simp; first | exact ⟨Ext.rf _, rfl⟩ | rfl)); (go_simp; refine hK _ ?_; clear hK K)
    refine' walk_val (by rfl) ?aa3 (fun K hK => ?ba3); (case aa3 => (intro W hW hd; clear hd; go_simp; first | exact ⟨Ext.rf _, rfl⟩ | rfl)); (go_simp; refine hK _ ?_; clear hK K)
    refine' walk_val (by rfl) ?aa4 (fun K hK => ?ba4); (case aa4 => (intro W hW hd; clear hd; go_simp; first | exact ⟨Ext.rf _, rfl⟩ | rfl)); (go_simp; refine hK _ ?_; clear hK K)
    refine' walk_val (by rfl) ?aa5 (fun K hK => ?ba5); (case aa5 => (intro W hW hd; clear hd; go_simp; first | exact ⟨Ext.rf _, rfl⟩ | rfl)); (go_simp; refine hK _ ?_; clear hK K)
    refine' walk_val (by rfl) ?aa6 (fun K hK => ?ba6); (case aa6 => (intro W hW hd; clear hd; go_simp; first | exact ⟨Ext.rf _, rfl⟩ | rfl)); (go_simp; refine hK _ ?_; clear hK K)
    refine' walk_val (by rfl) ?aa7 (fun K hK => ?ba7); (case aa7 => (intro W hW hd; go_simp; (clear hd; exact makes_val (hd2 _ (Ext.tr E1 hW))))); (go_simp; refine hK _ ?_; clear hK K)
    refine' walk_val (by rfl) ?aa8 (fun K hK => ?ba8); (case aa8 => (intro W hW hd; clear hd; go_simp; first | exact ⟨Ext.rf _, rfl⟩ | rfl)); (go_simp; refine hK _ ?_; clear hK K)
    refine' walk_val (by rfl) ?aa9 (fun K hK => ?ba9); (case aa9 => (intro W hW hd; clear hd; go_simp; first | exact ⟨Ext.rf _, rfl⟩ | rfl)); (go_simp; refine hK _ ?_; clear hK K)
    refine' walk_val (by rfl) ?aa10 (fun K hK => ?ba10); (case aa10 => (intro W hW hd; clear hd; go_simp; first | exact ⟨Ext.rf _, rfl⟩ | rfl)); (go_simp; refine hK _ ?_; clear hK K)
    refine' walk_val (by rfl) ?aa11 (fun K hK => ?ba11); (case aa11 => (intro W hW hd; clear hd; go_simp; first | exact ⟨Ext.rf _, rfl⟩ | rfl)); (go_simp; refine hK _ ?_; clear hK K)
    refine' walk_val (by rfl) ?aa12 (fun K hK => ?ba12); (case aa12 => (intro W hW hd; clear hd; go_simp; first | exact ⟨Ext.rf _, rfl⟩ | rfl)); (go_simp; refine hK _ ?_; clear hK K)
    refine' walk_val (by rfl) ?aa13 (fun K hK => ?ba13); (case aa13 => (intro W hW hd; clear hd; go_simp; first | exact ⟨Ext.rf _, rfl⟩ | rfl)); (go_simp; refine hK _ ?_; clear hK K)
    refine' walk_val (by rfl) ?aa14 (fun K hK => ?ba14); (case aa14 => (intro W hW hd; clear hd; go_simp; first | exact ⟨Ext.rf _, rfl⟩ | rfl)); (go_simp; refine hK _ ?_; clear hK K)
    refine' walk_val (by rfl) ?aa15 (fun K hK => ?ba15); (case aa15 => (intro W hW hd; clear hd; go_simp; first | exact ⟨Ext.rf _, rfl⟩ | rfl)); (go_simp; refine hK _ ?_; clear hK K)
    refine' walk_val (by rfl) ?aa16 (fun K hK => ?ba16); (case aa16 => (intro W hW hd; clear hd; go_simp; first | exact ⟨Ext.rf _, rfl⟩ | rfl)); (go_simp; refine hK _ ?_; clear hK K)
    refine' walk_val (by rfl) ?aa17 (fun K hK => ?ba17); (case aa17 => (intro W hW hd; clear hd; go_simp; first | exact ⟨Ext.rf _, rfl⟩ | rfl)); (go_simp; refine hK _ ?_; clear hK K)
    refine' walk_val (by rfl) ?aa18 (fun K hK => ?ba18); (case aa18 => (intro W hW hd; clear hd; go_simp; first | exact ⟨Ext.rf _, rfl⟩ | rfl)); (go_simp; refine hK _ ?_; clear hK K)
    refine' walk_val (by rfl) ?aa19 (fun K hK => ?ba19); (case aa19 => (intro W hW hd; go_simp; (clear hd; exact makes_val (hd4 _ (Ext.tr E1 hW))))); (go_simp; refine hK _ ?_; clear hK K)
    refine' walk_val (by rfl) ?aa20 (fun K hK => ?ba20); (case aa20 => (intro W hW hd; clear hd; go_simp; first | exact ⟨Ext.rf _, rfl⟩ | rfl)); (go_simp; refine hK _ ?_; clear hK K)
    refine' walk_val (by rfl) ?aa21 (fun K hK => ?ba21); (case aa21 => (intro W hW hd; clear hd; go_simp; first | exact ⟨Ext.rf _, rfl⟩ | rfl)); (go_simp; refine hK _ ?_; clear hK K)
    refine walk_end (fun W hW hfin => ?_)
    have B6 : Ext w W := Ext.tr E1 hW
    clear hfin g0 g1 g2 g3 gW gM sk
    have z5 := d2_size
    go_wp2_with (go_at_call 60; ((with_reducible refine (hc _ _ (by omega) (by omega)).mono ?_); rintro e w' ⟨rfl, rfl⟩))
    go_ret2
    exact ⟨by rw [HF.out]; exact ret_tx (by rw [HT.out, ← HE.out]), B6⟩
set_option maxRecDepth 100000 in
set_option maxHeartbeats 1000000 in
theorem text_no (t : Int) (w : World) (h : inT t = false) :
    Calls Tryz.prog 28 #[.int .i64 t] w fun e w' => e = .returned (txR t) ∧ Below w.heap.size w w' := by
  have HF := Lib.hid (txR_no h)
  have hI := fun W => isTick_any t W
  rw [h] at hI
  clear h
  go_enter Tryz.func28, Tryz.ntmps28
  go_wp2_with (go_at_call 58; ((with_reducible refine (hI _).mono ?_); rintro e w' ⟨rfl, rfl⟩))
  go_ret2
  exact ⟨by rw [HF.out]; rfl, by go_grown⟩
theorem text_any (t : Int) (w : World) (hw : LaidD w) :
    Calls Tryz.prog 28 #[.int .i64 t] w fun e w' => e = .returned (txR t) ∧ Below w.heap.size w w' := by
  cases h : inT t with
  | true => exact text_yes t w h hw
  | false => exact text_no t w h

set_option maxRecDepth 100000 in
set_option maxHeartbeats 8000000 in
theorem rtext_yes (t : Int) (w : World) (h : inT t = true) :
    Calls Tryz.prog 42 #[.int .i64 t] w fun e w' => e = .returned (txR t) ∧ Below w.heap.size w w' := by
  have HF := Lib.hid (txR_yes h)
  have hO := rof_any t w
  rw [ofR_yes h] at hO
  obtain ⟨h0, h9⟩ := inT_iff.1 h
  clear h
  obtain ⟨hr, hnum⟩ := of_num (n := t / 86400) (by omega) (by omega)
  clear hnum
  obtain ⟨p1, p2, p3, p4, p5, p6⟩ := rd_iff.1 hr
  have pm := mdays_bd (yO (t / 86400)) (mO (t / 86400))
  clear hr
  have HT : Hid (txB t = wkB ((t / 86400 + 4) % 7) ++ ⟨#[44, 32]⟩ ++ d2B (dO (t / 86400)) ++ ⟨#[32]⟩ ++ moB (mO (t / 86400)) ++ ⟨#[32]⟩ ++ d2B (yO (t / 86400) / 100) ++ d2B (yO (t / 86400) % 100) ++ ⟨#[32]⟩ ++ d2B (t % 86400 / 3600) ++ ⟨#[58]⟩ ++ d2B (t % 86400 / 60 % 60) ++ ⟨#[58]⟩ ++ d2B (t % 86400 % 60) ++ ⟨#[32, 71, 77, 84]⟩) :=
    Lib.hid rfl
  have hT : ∀ W (i : Int), 0 ≤ i → i ≤ 99 → Calls Tryz.prog 64 #[.int .i64 i] W fun e w' => e = .returned (.string (d2B i)) ∧ Below W.heap.size W w' := fun W i i0 i9 => two_any i W i0 i9
  have hwk : ∀ W, Calls Tryz.prog 63 #[] W fun e w' => e = .returned (.string wksB) ∧ Below W.heap.size W w' := fun W => below_same (weeks_any W)
  have hmo : ∀ W, Calls Tryz.prog 65 #[] W fun e w' => e = .returned (.string mosB) ∧ Below W.heap.size W w' := fun W => below_same (months_any W)
  obtain ⟨j, hj, j7⟩ : ∃ j : Nat, (t / 86400 + 4) % 7 = j ∧ j < 7 := ⟨((t / 86400 + 4) % 7).toNat, by omega, by omega⟩
  obtain ⟨k, hk, k12⟩ : ∃ k : Nat, mO (t / 86400) = (k : Int) + 1 ∧ k < 12 := ⟨(mO (t / 86400) - 1).toNat, by omega, by omega⟩
  rw [hj] at hO HT
  have hx := wks_cut j j7
  have hy := mos_cut k k12
  rw [← hk] at hy
  obtain ⟨a, ha⟩ : ∃ a, a = 3 * j := ⟨_, rfl⟩
  obtain ⟨b, hb⟩ : ∃ b, b = 3 * j + 3 := ⟨_, rfl⟩
  obtain ⟨c, hc⟩ : ∃ c, c = 3 * k := ⟨_, rfl⟩
  obtain ⟨e, he⟩ : ∃ e, e = 3 * k + 3 := ⟨_, rfl⟩
  rw [← hb, ← ha] at hx
  rw [← he, ← hc] at hy
  have sa : IntKind.i64.wrap (3 * (j : Int)) = (a : Int) := by rw [IntWalk.i64_in _ (by omega)]; omega
  have sb : IntKind.i64.wrap ((a : Int) + 3) = (b : Int) := by rw [IntWalk.i64_in _ (by omega)]; omega
  have se : IntKind.i64.wrap (3 * mO (t / 86400)) = (e : Int) := by rw [IntWalk.i64_in _ (by omega)]; omega
  have sc : IntKind.i64.wrap ((e : Int) - 3) = (c : Int) := by rw [IntWalk.i64_in _ (by omega)]; omega
  have q1 : a ≤ b := by omega
  have q2 : b ≤ wksB.size := by show b ≤ 21; omega
  have q3 : c ≤ e := by omega
  have q4 : e ≤ mosB.size := by show e ≤ 36; omega
  have q5 : wksB.size = 21 := rfl
  have q6 : mosB.size = 36 := rfl
  have q2' : b ≤ 21 := by omega
  have q4' : e ≤ 36 := by omega
  have r1 : (a : Int) ≤ (b : Int) := by omega
  have r2 : (0 : Int) ≤ (a : Int) := by omega
  have r3 : (0 : Int) ≤ (b : Int) := by omega
  have r4 : (c : Int) ≤ (e : Int) := by omega
  have r5 : (0 : Int) ≤ (c : Int) := by omega
  have r6 : (0 : Int) ≤ (e : Int) := by omega
  have r7 : (b : Int) ≤ 21 := by omega
  have r8 : (e : Int) ≤ 36 := by omega
  have d0 : 0 ≤ dO (t / 86400) := by omega
  have d9 : dO (t / 86400) ≤ 99 := by omega
  have ty1 : (yO (t / 86400)).tdiv 100 = yO (t / 86400) / 100 := Int.tdiv_eq_ediv_of_nonneg (by omega)
  have ty2 : (yO (t / 86400)).tmod 100 = yO (t / 86400) % 100 := Int.tmod_eq_emod_of_nonneg (by omega)
  have yq0 : 0 ≤ yO (t / 86400) / 100 := by omega
  have yq9 : yO (t / 86400) / 100 ≤ 99 := by omega
  have yr0 : 0 ≤ yO (t / 86400) % 100 := by omega
  have yr9 : yO (t / 86400) % 100 ≤ 99 := by omega
  have s0 : 0 ≤ t % 86400 := by omega
  have s9 : t % 86400 < 86400 := by omega
  have wkz := wkB_size (j : Int)
  have moz := moB_size (mO (t / 86400))
  clear hj hk ha hb hc he p3 p4 pm k12 j7
  generalize yO (t / 86400) = Y at *
  generalize mO (t / 86400) = M at *
  generalize dO (t / 86400) = D at *
  generalize t % 86400 = s at *
  generalize Y / 100 = YQ at *
  generalize Y % 100 = YR at *
  generalize wkB (j : Int) = WS at *
  generalize moB M = MS at *
  clear p1 p2 p5 p6
  have sq : IntKind.i64.wrap YQ = YQ := IntWalk.i64_in _ (by omega)
  have z4 := d2_size D
  have z5 := d2_size YQ
  have z6 := d2_size YR
  go_enter Tryz.func42, Tryz.ntmps42
  go_wp2_with (go_at_call 62; ((with_reducible refine hO.mono ?_); rintro e w1 ⟨rfl, hb1⟩))
  have E1 : Ext w (w1.alloc (.cells #[.int .i64 Y, .int .i64 M, .int .i64 D, .int .i64 j] 90)) := Ext.tr hb1 ((Below.refl _ _).alloc (Nat.le_refl _) _)
  have g0 : ∀ W, Ext (w1.alloc (.cells #[.int .i64 Y, .int .i64 M, .int .i64 D, .int .i64 j] 90)) W → W.cell? ⟨w1.heap.size, 0, none⟩ = some (.int .i64 Y) := fun W h => by rw [h.cell (p := ⟨w1.heap.size, 0, none⟩) (by show w1.heap.size < (w1.alloc _).heap.size; simp)]; go_simp
  have g1 : ∀ W, Ext (w1.alloc (.cells #[.int .i64 Y, .int .i64 M, .int .i64 D, .int .i64 j] 90)) W → W.cell? ⟨w1.heap.size, 1, none⟩ = some (.int .i64 M) := fun W h => by rw [h.cell (p := ⟨w1.heap.size, 1, none⟩) (by show w1.heap.size < (w1.alloc _).heap.size; simp)]; go_simp
  have g2 : ∀ W, Ext (w1.alloc (.cells #[.int .i64 Y, .int .i64 M, .int .i64 D, .int .i64 j] 90)) W → W.cell? ⟨w1.heap.size, 2, none⟩ = some (.int .i64 D) := fun W h => by rw [h.cell (p := ⟨w1.heap.size, 2, none⟩) (by show w1.heap.size < (w1.alloc _).heap.size; simp)]; go_simp
  have g3 : ∀ W, Ext (w1.alloc (.cells #[.int .i64 Y, .int .i64 M, .int .i64 D, .int .i64 j] 90)) W → W.cell? ⟨w1.heap.size, 3, none⟩ = some (.int .i64 j) := fun W h => by rw [h.cell (p := ⟨w1.heap.size, 3, none⟩) (by show w1.heap.size < (w1.alloc _).heap.size; simp)]; go_simp
  clear hO
  generalize w1.alloc (.cells #[.int .i64 Y, .int .i64 M, .int .i64 D, .int .i64 j] 90) = w2 at *
  refine' wp_region_made (rels := relsOf ((.val _) :: (.val _) :: (.val _) :: (.val _) :: (.val _) :: (.val _) :: (.val _) :: (.val _) :: (.val _) :: (.val _) :: (.val _) :: (.val _) :: (.val _) :: (.val _) :: (.val _) :: (.val _) :: (.val _) :: (.val _) :: (.val _) :: (.val _) :: (.val _) :: (.val _) :: (.val _) :: (.val _) :: (.val _) :: (.val _) :: (.val _) :: (.val _) :: (.val _) :: (.val _) :: (.val _) :: (.val _) :: (.val _) :: (.val _) :: (.val _) :: (.val _) :: (.val _) :: [])) (w := w2) 72 (by kernel_rfl) (by kernel_rfl) (by rfl) (relsOf_stable ?str) ?wkr
  case str => exact stable_val (stable_val (stable_val (stable_val (stable_val (stable_val (stable_val (stable_val (stable_val (stable_val (stable_val (stable_val (stable_val (stable_val (stable_val (stable_val (stable_val (stable_val (stable_val (stable_val (stable_val (stable_val (stable_val (stable_val (stable_val (stable_val (stable_val (stable_val (stable_val (stable_val (stable_val (stable_val (stable_val (stable_val (stable_val (stable_val (stable_val (stable_nil)))))))))))))))))))))))))))))))))))))
  case wkr =>
    refine' walk_val (by rfl) ?ar0 (fun K hK => ?br0); (case ar0 => (intro W hW hd; go_simp; (clear hd; exact makes_val (hwk _)))); (go_simp; refine hK _ ?_; clear hK K)
    refine' walk_val (by rfl) ?ar1 (fun K hK => ?br1); (case ar1 => (intro W hW hd; clear hd; go_simp; first | exact ⟨Ext.rf _, rfl⟩ | rfl)); (go_simp; refine hK _ ?_; clear hK K)
    refine' walk_val (by rfl) ?ar2 (fun K hK => ?br2); (case ar2 => (intro W hW hd; clear hd; go_simp; first | exact ⟨Ext.rf _, rfl⟩ | rfl)); (go_simp; refine hK _ ?_; clear hK K)
    refine' walk_val (by rfl) ?ar3 (fun K hK => ?br3); (case ar3 => (intro W hW hd; clear hd; go_simp; first | exact ⟨Ext.rf _, rfl⟩ | rfl)); (go_simp; refine hK _ ?_; clear hK K)
    refine' walk_val (by rfl) ?ar4 (fun K hK => ?br4); (case ar4 => (intro W hW hd; clear hd; go_simp; first | exact ⟨Ext.rf _, rfl⟩ | rfl)); (go_simp; refine hK _ ?_; clear hK K)
    refine' walk_val (by rfl) ?ar5 (fun K hK => ?br5); (case ar5 => (intro W hW hd; clear hd; go_simp; first | exact ⟨Ext.rf _, rfl⟩ | rfl)); (go_simp; refine hK _ ?_; clear hK K)
    refine' walk_val (by rfl) ?ar6 (fun K hK => ?br6); (case ar6 => (intro W hW hd; clear hd; go_simp; first | exact ⟨Ext.rf _, rfl⟩ | rfl)); (go_simp; refine hK _ ?_; clear hK K)
    refine' walk_val (by rfl) ?ar7 (fun K hK => ?br7); (case ar7 => (intro W hW hd; clear hd; go_simp; first | exact ⟨Ext.rf _, rfl⟩ | rfl)); (go_simp; refine hK _ ?_; clear hK K)
    refine' walk_val (by rfl) ?ar8 (fun K hK => ?br8); (case ar8 => (intro W hW hd; clear hd; go_simp; first | exact ⟨Ext.rf _, rfl⟩ | rfl)); (go_simp; refine hK _ ?_; clear hK K)
    refine' walk_val (by rfl) ?ar9 (fun K hK => ?br9); (case ar9 => (intro W hW hd; clear hd; go_simp; first | exact ⟨Ext.rf _, rfl⟩ | rfl)); (go_simp; refine hK _ ?_; clear hK K)
    refine' walk_val (by rfl) ?ar10 (fun K hK => ?br10); (case ar10 => (intro W hW hd; clear hd; go_simp; first | exact ⟨Ext.rf _, rfl⟩ | rfl)); (go_simp; refine hK _ ?_; clear hK K)
    refine' walk_val (by rfl) ?ar11 (fun K hK => ?br11); (case ar11 => (intro W hW hd; clear hd; go_simp; first | exact ⟨Ext.rf _, rfl⟩ | rfl)); (go_simp; refine hK _ ?_; clear hK K)
    refine' walk_val (by rfl) ?ar12 (fun K hK => ?br12); (case ar12 => (intro W hW hd; go_simp; (clear hd; exact makes_val (hT _ _ d0 d9)))); (go_simp; refine hK _ ?_; clear hK K)
    refine' walk_val (by rfl) ?ar13 (fun K hK => ?br13); (case ar13 => (intro W hW hd; clear hd; go_simp; first | exact ⟨Ext.rf _, rfl⟩ | rfl)); (go_simp; refine hK _ ?_; clear hK K)
    refine' walk_val (by rfl) ?ar14 (fun K hK => ?br14); (case ar14 => (intro W hW hd; clear hd; go_simp; first | exact ⟨Ext.rf _, rfl⟩ | rfl)); (go_simp; refine hK _ ?_; clear hK K)
    refine' walk_val (by rfl) ?ar15 (fun K hK => ?br15); (case ar15 => (intro W hW hd; go_simp; (clear hd; exact makes_val (hmo _)))); (go_simp; refine hK _ ?_; clear hK K)
    refine' walk_val (by rfl) ?ar16 (fun K hK => ?br16); (case ar16 => (intro W hW hd; clear hd; go_simp; first | exact ⟨Ext.rf _, rfl⟩ | rfl)); (go_simp; refine hK _ ?_; clear hK K)
    refine' walk_val (by rfl) ?ar17 (fun K hK => ?br17); (case ar17 => (intro W hW hd; clear hd; go_simp; first | exact ⟨Ext.rf _, rfl⟩ | rfl)); (go_simp; refine hK _ ?_; clear hK K)
    refine' walk_val (by rfl) ?ar18 (fun K hK => ?br18); (case ar18 => (intro W hW hd; clear hd; go_simp; first | exact ⟨Ext.rf _, rfl⟩ | rfl)); (go_simp; refine hK _ ?_; clear hK K)
    refine' walk_val (by rfl) ?ar19 (fun K hK => ?br19); (case ar19 => (intro W hW hd; clear hd; go_simp; first | exact ⟨Ext.rf _, rfl⟩ | rfl)); (go_simp; refine hK _ ?_; clear hK K)
    refine' walk_val (by rfl) ?ar20 (fun K hK => ?br20); (case ar20 => (intro W hW hd; clear hd; go_simp; first | exact ⟨Ext.rf _, rfl⟩ | rfl)); (go_simp; refine hK _ ?_; clear hK K)
    refine' walk_val (by rfl) ?ar21 (fun K hK => ?br21); (case ar21 => (intro W hW hd; clear hd; go_simp; first | exact ⟨Ext.rf _, rfl⟩ | rfl)); (go_simp; refine hK _ ?_; clear hK K)
    refine' walk_val (by rfl) ?ar22 (fun K hK => ?br22); (case ar22 => (intro W hW hd; clear hd; go_simp; first | exact ⟨Ext.rf _, rfl⟩ | rfl)); (go_simp; refine hK _ ?_; clear hK K)
    refine' walk_val (by rfl) ?ar23 (fun K hK => ?br23); (case ar23 => (intro W hW hd; clear hd; go_simp; first | exact ⟨Ext.rf _, rfl⟩ | rfl)); (go_simp; refine hK _ ?_; clear hK K)
    refine' walk_val (by rfl) ?ar24 (fun K hK => ?br24); (case ar24 => (intro W hW hd; clear hd; go_simp; first | exact ⟨Ext.rf _, rfl⟩ | rfl)); (go_simp; refine hK _ ?_; clear hK K)
    refine' walk_val (by rfl) ?ar25 (fun K hK => ?br25); (case ar25 => (intro W hW hd; clear hd; go_simp; first | exact ⟨Ext.rf _, rfl⟩ | rfl)); (go_simp; refine hK _ ?_; clear hK K)
    refine' walk_val (by rfl) ?ar26 (fun K hK => ?br26); (case ar26 => (intro W hW hd; clear hd; go_simp; first | exact ⟨Ext.rf _, rfl⟩ | rfl)); (go_simp; refine hK _ ?_; clear hK K)
    refine' walk_val (by rfl) ?ar27 (fun K hK => ?br27); (case ar27 => (intro W hW hd; clear hd; go_simp; first | exact ⟨Ext.rf _, rfl⟩ | rfl)); (go_simp; refine hK _ ?_; clear hK K)
    refine' walk_val (by rfl) ?ar28 (fun K hK => ?br28); (case ar28 => (intro W hW hd; clear hd; go_simp; first | exact ⟨Ext.rf _, rfl⟩ | rfl)); (go_simp; refine hK _ ?_; clear hK K)
    refine' walk_val (by rfl) ?ar29 (fun K hK => ?br29); (case ar29 => (intro W hW hd; go_simp; (clear hd; exact makes_val (hT _ _ yq0 yq9)))); (go_simp; refine hK _ ?_; clear hK K)
    refine' walk_val (by rfl) ?ar30 (fun K hK => ?br30); (case ar30 => (intro W hW hd; clear hd; go_simp; first | exact ⟨Ext.rf _, rfl⟩ | rfl)); (go_simp; refine hK _ ?_; clear hK K)
    refine' walk_val (by rfl) ?ar31 (fun K hK => ?br31); (case ar31 => (intro W hW hd; clear hd; go_simp; first | exact ⟨Ext.rf _, rfl⟩ | rfl)); (go_simp; refine hK _ ?_; clear hK K)
    refine' walk_val (by rfl) ?ar32 (fun K hK => ?br32); (case ar32 => (intro W hW hd; clear hd; go_simp; first | exact ⟨Ext.rf _, rfl⟩ | rfl)); (go_simp; refine hK _ ?_; clear hK K)
    refine' walk_val (by rfl) ?ar33 (fun K hK => ?br33); (case ar33 => (intro W hW hd; clear hd; go_simp; first | exact ⟨Ext.rf _, rfl⟩ | rfl)); (go_simp; refine hK _ ?_; clear hK K)
    refine' walk_val (by rfl) ?ar34 (fun K hK => ?br34); (case ar34 => (intro W hW hd; go_simp; (clear hd; exact makes_val (hT _ _ yr0 yr9)))); (go_simp; refine hK _ ?_; clear hK K)
    refine' walk_val (by rfl) ?ar35 (fun K hK => ?br35); (case ar35 => (intro W hW hd; clear hd; go_simp; first | exact ⟨Ext.rf _, rfl⟩ | rfl)); (go_simp; refine hK _ ?_; clear hK K)
    refine' walk_val (by rfl) ?ar36 (fun K hK => ?br36); (case ar36 => (intro W hW hd; clear hd; go_simp; first | exact ⟨Ext.rf _, rfl⟩ | rfl)); (go_simp; refine hK _ ?_; clear hK K)
    refine walk_end (fun W hW hfin => ?_)
    have B6 : Ext w W := Ext.tr E1 hW
    clear hfin g0 g1 g2 g3 sa sb sc se hx hy
    have z7 := d2_size
    clear sq
    go_wp2_with (go_at_call 64; ((with_reducible refine (hT _ _ (by omega) (by omega)).mono ?_); rintro e u ⟨rfl, hb⟩; have B6 := Ext.tr B6 hb; clear hb))
    go_ret2
    exact ⟨by rw [HF.out]; exact ret_tx HT.out.symm, B6⟩
set_option maxRecDepth 100000 in
set_option maxHeartbeats 1000000 in
theorem rtext_any (t : Int) (w : World) :
    Calls Tryz.prog 42 #[.int .i64 t] w fun e w' => e = .returned (txR t) ∧ Below w.heap.size w w' := by
  cases h : inT t with
  | true => exact rtext_yes t w h
  | false =>
    have HF := Lib.hid (txR_no h)
    by_cases h0 : t < 0
    · clear h
      go_enter Tryz.func42, Tryz.ntmps42
      go_wp2
      go_ret2
      exact ⟨by rw [HF.out]; rfl, by go_grown⟩
    · have h9 : 253402300799 < t := by
        refine Int.not_le.1 fun h9 => ?_
        rw [inT_iff.2 ⟨by omega, h9⟩] at h; cases h
      clear h
      go_enter Tryz.func42, Tryz.ntmps42
      go_wp2
      go_ret2
      exact ⟨by rw [HF.out]; rfl, by go_grown⟩
end Go.Proofs.YtomcoacndppkcaaGreatDoor.D
