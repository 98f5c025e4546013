/-
  The tick of a date, of the reference.
-/
import Derived.Test.YtomcoacndppkcaaGreatDoorDQ
namespace Go.Proofs.YtomcoacndppkcaaGreatDoor.D
open Go Go.RowKit

def secR (x : ByteArray) : Int := 3600 * numR (x.extract 17 19) + 60 * numR (x.extract 20 22) + numR (x.extract 23 25)
def hmsB (h m s : Int) : Prop := (0 ≤ h ∧ h ≤ 23) ∧ (0 ≤ m ∧ m ≤ 59) ∧ (0 ≤ s ∧ s ≤ 59)
theorem rparse_bad1 {x : ByteArray} (h : ¬hmsB (numR (x.extract 17 19)) (numR (x.extract 20 22)) (numR (x.extract 23 25))) : parV x = 0 ∧ parE x = 2 :=
  par_eq (Or.inr ⟨rfl, rfl, fun _ ht => h ⟨(parts_R ht).2.2.1, (parts_R ht).2.2.2.1, (parts_R ht).2.2.2.2.1⟩⟩)
theorem rparse_bad2 {x : ByteArray} (h : ¬rdB (numR (x.extract 12 16)) (moX (x.extract 8 11)) (numR (x.extract 5 7)) = true) : parV x = 0 ∧ parE x = 2 :=
  par_eq (Or.inr ⟨rfl, rfl, fun _ ht => h (parts_R ht).2.1⟩)
theorem rparse_off {x : ByteArray} (h : txB (num (numR (x.extract 12 16)) (moX (x.extract 8 11)) (numR (x.extract 5 7)) * 86400 + secR x) ≠ x) : parV x = 0 ∧ parE x = 2 :=
  par_eq (Or.inr ⟨rfl, rfl, fun _ ht => h (by unfold secR; rw [(parts_R ht).2.2.2.2.2]; exact ht.2)⟩)
theorem rparse_on {x : ByteArray} (hr : rdB (numR (x.extract 12 16)) (moX (x.extract 8 11)) (numR (x.extract 5 7)) = true) (h0 : 0 ≤ secR x) (h9 : secR x < 86400)
    (h : txB (num (numR (x.extract 12 16)) (moX (x.extract 8 11)) (numR (x.extract 5 7)) * 86400 + secR x) = x) : parV x = num (numR (x.extract 12 16)) (moX (x.extract 8 11)) (numR (x.extract 5 7)) * 86400 + secR x ∧ parE x = 0 :=
  par_eq (Or.inl ⟨rfl, num_tick hr h0 h9, h⟩)
/-- what the loop over months has found, ahead of k -/
def MoF (x : ByteArray) (k c : Int) : Prop := (c = 0 ∧ ∀ m : Int, 1 ≤ m → m < k → moB m ≠ x) ∨ (1 ≤ c ∧ c < k ∧ moB c = x)
theorem MoF.end_ {x : ByteArray} {c : Int} (h : MoF x 13 c) : c = moX x := by
  rcases h with ⟨rfl, h⟩ | ⟨h1, h2, h3⟩
  · exact (moX_none fun m a b => h m a (by omega)).symm
  · exact (moX_of x c h1 (by omega) h3).symm
theorem MoF.hit {x : ByteArray} {k : Int} (h1 : 1 ≤ k) (he : moB k = x) : MoF x (k + 1) k := Or.inr ⟨h1, by omega, he⟩
theorem MoF.miss {x : ByteArray} {k c : Int} (h : MoF x k c) (he : moB k ≠ x) : MoF x (k + 1) c := by
  rcases h with ⟨rfl, h⟩ | ⟨h1, h2, h3⟩
  · refine Or.inl ⟨rfl, fun m a b => ?_⟩
    by_cases hm : m = k
    · rw [hm]; exact he
    · exact h m a (by omega)
  · exact Or.inr ⟨h1, by omega, h3⟩
/-- the memory of the loop -/
structure DyAt (w : World) (b : Nat) (Y c D : Int) (wr : World) : Prop where
  ext : Ext w wr
  b0 : w.heap.size ≤ b
  sz : b < wr.heap.size
  c0 : wr.cell? ⟨b, 0, none⟩ = some (.int .i64 Y)
  c1 : wr.cell? ⟨b, 1, none⟩ = some (.int .i64 c)
  c2 : wr.cell? ⟨b, 2, none⟩ = some (.int .i64 D)
  c3 : wr.cell? ⟨b, 3, none⟩ = some (.int .i64 0)
  fr : ∀ o, wr.frozen? ⟨b, o, none⟩ = false
theorem DyAt.drewN {w wr : World} {b : Nat} {Y c D : Int} (h : DyAt w b Y c D wr) (n : Nat) : DyAt w b Y c D (wr.drewN n) := by
  obtain ⟨a, a0, a1, a2, a3, a4, a5, a6⟩ := h
  exact ⟨below_drewN a n, a0, a1, a2, a3, a4, a5, a6⟩
theorem DyAt.setM {w wr : World} {b : Nat} {Y c D : Int} (h : DyAt w b Y c D wr) (c' : Int) : DyAt w b Y c' D (wr.setCell ⟨b, 1, none⟩ (.int .i64 c')) := by
  obtain ⟨a, a0, a1, a2, a3, a4, a5, a6⟩ := h
  exact ⟨a.setCell a0 _, a0, by go_simp, by go_simp, by go_simp, by go_simp, by go_simp, fun o => by go_simp⟩

set_option maxRecDepth 100000 in
set_option maxHeartbeats 8000000 in
theorem rparse_yes (x : ByteArray) (w : World) (hz : x.size = 29) :
    Calls Tryz.prog 55 #[.string x] w fun e w' => e = .returned (.tuple #[.int .i64 (parV x), .int .i64 (parE x)]) ∧ Below w.heap.size w w' := by
  have hY : ∀ W, Calls Tryz.prog 79 #[.string (x.extract 12 16)] W fun e w' => e = .returned (.int .i64 (numR (x.extract 12 16))) ∧ w' = W := fun W => rnumber_any _ W (by rw [ByteArray.size_extract]; omega)
  have hYb := numR_bd (x := x.extract 12 16) (by rw [ByteArray.size_extract]; omega)
  have hD : ∀ W, Calls Tryz.prog 79 #[.string (x.extract 5 7)] W fun e w' => e = .returned (.int .i64 (numR (x.extract 5 7))) ∧ w' = W := fun W => rnumber_any _ W (by rw [ByteArray.size_extract]; omega)
  have hDb := numR_bd (x := x.extract 5 7) (by rw [ByteArray.size_extract]; omega)
  have hA : ∀ W, Calls Tryz.prog 79 #[.string (x.extract 17 19)] W fun e w' => e = .returned (.int .i64 (numR (x.extract 17 19))) ∧ w' = W := fun W => rnumber_any _ W (by rw [ByteArray.size_extract]; omega)
  have hAb := numR_bd (x := x.extract 17 19) (by rw [ByteArray.size_extract]; omega)
  have hB : ∀ W, Calls Tryz.prog 79 #[.string (x.extract 20 22)] W fun e w' => e = .returned (.int .i64 (numR (x.extract 20 22))) ∧ w' = W := fun W => rnumber_any _ W (by rw [ByteArray.size_extract]; omega)
  have hBb := numR_bd (x := x.extract 20 22) (by rw [ByteArray.size_extract]; omega)
  have hC : ∀ W, Calls Tryz.prog 79 #[.string (x.extract 23 25)] W fun e w' => e = .returned (.int .i64 (numR (x.extract 23 25))) ∧ w' = W := fun W => rnumber_any _ W (by rw [ByteArray.size_extract]; omega)
  have hCb := numR_bd (x := x.extract 23 25) (by rw [ByteArray.size_extract]; omega)
  have HB1 := Lib.hid (@rparse_bad1 x)
  have HB2 := Lib.hid (@rparse_bad2 x)
  have HO := Lib.hid (@rparse_off x)
  have HN := Lib.hid (@rparse_on x)
  have HS : Hid (secR x = 3600 * numR (x.extract 17 19) + 60 * numR (x.extract 20 22) + numR (x.extract 23 25)) := Lib.hid rfl
  generalize secR x = S at *
  generalize numR (x.extract 12 16) = Y at *
  generalize numR (x.extract 5 7) = D at *
  generalize numR (x.extract 17 19) = A at *
  generalize numR (x.extract 20 22) = B at *
  generalize numR (x.extract 23 25) = C at *
  have hT : ∀ W y m d k s, Calls Tryz.prog 80 #[.agg #[.int .i64 y, .int .i64 m, .int .i64 d, .int .i64 k], .int .i64 s] W fun e w' => e = .returned (.tuple #[.int .i64 (tkV y m d s), .int .i64 (tkE y m d s)]) ∧ Below W.heap.size W w' := fun W y m d k s => rtick_any y m d k s W
  have hX : ∀ W t, Calls Tryz.prog 42 #[.int .i64 t] W fun e w' => e = .returned (txR t) ∧ Below W.heap.size W w' := fun W t => rtext_any t W
  go_enter Tryz.func55, Tryz.ntmps55
  go_wp2
  refine' wp_region_made_tail (m := 8) (rels := relsOf ((.val _) :: (.val _) :: (.val _) :: (.val _) :: (.val _) :: (.val _) :: (.val _) :: (.rel (NewAt w.heap.size #[.int .i64 0, .int .i64 0, .int .i64 0, .int .i64 0])) :: [])) (w := w) 93 (by kernel_rfl) (by kernel_rfl) (by rfl) (relsOf_stable ?sta) ?wka
  case sta => exact stable_val (stable_val (stable_val (stable_val (stable_val (stable_val (stable_val (stable_rel NewAt.keep (stable_nil))))))))
  case wka =>
    refine' walkT_val (by rfl) ?aa0 (fun K hK => ?ba0); (case aa0 => (intro W hW hd; clear hd; go_simp; first | exact ⟨Ext.rf _, rfl⟩ | rfl)); (go_simp; refine hK _ ?_; clear hK K)
    refine' walkT_val (by rfl) ?aa1 (fun K hK => ?ba1); (case aa1 => (intro W hW hd; clear hd; go_simp; first | exact ⟨Ext.rf _, rfl⟩ | rfl)); (go_simp; refine hK _ ?_; clear hK K)
    refine' walkT_val (by rfl) ?aa2 (fun K hK => ?ba2); (case aa2 => (intro W hW hd; go_simp; (clear hd; exact makes_val (below_same (hY _))))); (go_simp; refine hK _ ?_; clear hK K)
    refine' walkT_val (by rfl) ?aa3 (fun K hK => ?ba3); (case aa3 => (intro W hW hd; clear hd; go_simp; first | exact ⟨Ext.rf _, rfl⟩ | rfl)); (go_simp; refine hK _ ?_; clear hK K)
    refine' walkT_val (by rfl) ?aa4 (fun K hK => ?ba4); (case aa4 => (intro W hW hd; clear hd; go_simp; first | exact ⟨Ext.rf _, rfl⟩ | rfl)); (go_simp; refine hK _ ?_; clear hK K)
    refine' walkT_val (by rfl) ?aa5 (fun K hK => ?ba5); (case aa5 => (intro W hW hd; go_simp; (clear hd; exact makes_val (below_same (hD _))))); (go_simp; refine hK _ ?_; clear hK K)
    refine' walkT_val (by rfl) ?aa6 (fun K hK => ?ba6); (case aa6 => (intro W hW hd; clear hd; go_simp; first | exact ⟨Ext.rf _, rfl⟩ | rfl)); (go_simp; refine hK _ ?_; clear hK K)
    refine' walkT_rel (by rfl) ?aa7 (fun va7 K hK => ?ba7); (case aa7 => (intro W hW hd; go_simp; (clear hd; exact ⟨(Below.refl _ _).alloc (Nat.le_refl _) _, NewAt.mk _ _ _ hW.size⟩))); (go_simp; refine hK _ ?_; clear hK K)
    refine walkT_end (fun W hW hfin => ?_)
    have hp := finT_rel hfin 7 4 _ (by decide) (by rfl) (by rfl) (by rfl)
    clear hfin
    obtain ⟨b, rfl, hb0, hb1, hbc, hbf⟩ := hp
    have c0 : W.cell? ⟨b, 0, none⟩ = some (.int .i64 0) := hbc 0
    have c1 : W.cell? ⟨b, 1, none⟩ = some (.int .i64 0) := hbc 1
    have c2 : W.cell? ⟨b, 2, none⟩ = some (.int .i64 0) := hbc 2
    have c3 : W.cell? ⟨b, 3, none⟩ = some (.int .i64 0) := hbc 3
    clear hbc
    simp only [List.drop_succ_cons, List.drop_zero]
    have D0 : DyAt w b Y 0 D (((((W.setCell ⟨b, 0, none⟩ (.int .i64 Y)).setCell ⟨b, 1, none⟩ (.int .i64 0)).setCell ⟨b, 2, none⟩ (.int .i64 D)).setCell ⟨b, 3, none⟩ (.int .i64 0))) := ⟨(((hW.setCell hb0 _).setCell hb0 _).setCell hb0 _).setCell hb0 _, hb0, by go_simp, by go_simp, by go_simp, by go_simp, by go_simp, fun o => by go_simp⟩
    have HD0 := Lib.hid D0
    clear D0
    go_wp2
    generalize ((((W.setCell ⟨b, 0, none⟩ (.int .i64 Y)).setCell ⟨b, 1, none⟩ (.int .i64 0)).setCell ⟨b, 2, none⟩ (.int .i64 D)).setCell ⟨b, 3, none⟩ (.int .i64 0)) = W3 at *
    clear c0 c1 c2 c3 hbf hb1 hY hD hW
    go_loopw [5] (fun i wr => ∃ (k : Nat) (c : Int), 1 ≤ k ∧ k ≤ 13 ∧ i = .int .i64 k ∧ Hid (MoF (x.extract 8 11) k c) ∧ Hid (DyAt w b Y c D wr)) (fun i _ => 13 - (intOf i).toNat)
    case atStart => exact ⟨1, 0, by omega, by omega, rfl, Lib.hid (Or.inl ⟨rfl, fun m a b => by omega⟩), HD0⟩
    case round =>
      obtain ⟨k, c, hk1, hk2, rfl, HM, HD⟩ := hrel
      by_cases hlt : k ≤ 12
      · have hcut := mos_cut (k - 1) (by omega)
        rw [show ((k - 1 : Nat) : Int) + 1 = (k : Int) by omega] at hcut
        obtain ⟨e, he⟩ : ∃ e, e = 3 * (k - 1) + 3 := ⟨_, rfl⟩
        obtain ⟨f, hf⟩ : ∃ f, f = 3 * (k - 1) := ⟨_, rfl⟩
        rw [← he, ← hf] at hcut
        have se : IntKind.i64.wrap (3 * (k : Int)) = (e : Int) := by rw [IntWalk.i64_in _ (by omega)]; omega
        have sc : IntKind.i64.wrap ((e : Int) - 3) = (f : Int) := by rw [IntWalk.i64_in _ (by omega)]; omega
        have q3 : f ≤ e := by omega
        have q4 : e ≤ mosB.size := by show e ≤ 36; omega
        have q6 : mosB.size = 36 := rfl
        have q4' : e ≤ 36 := by omega
        have r4 : (f : Int) ≤ (e : Int) := by omega
        have r5 : (0 : Int) ≤ (f : Int) := by omega
        have r6 : (0 : Int) ≤ (e : Int) := by omega
        have r8 : (e : Int) ≤ 36 := by omega
        have HQ := Lib.hid (str_eq (moB (k : Int)) (x.extract 8 11))
        have hmo := fun W => months_any W
        clear he hf
        by_cases he : moB (k : Int) = x.extract 8 11
        · have HF : Hid (MoF (x.extract 8 11) ((k + 1 : Nat) : Int) (k : Int)) := Lib.hid (by have := MoF.hit (k := (k : Int)) (by omega) he; simpa using this)
          have hq : ((moB (k : Int)).toList == (x.extract 8 11).toList) = true := by rw [HQ.out]; simpa using he
          clear HQ he HM
          generalize moB (k : Int) = N at *
          go_wp2
          go_quiet ((go_at_call 65; exact Calls.quiet_of_same (hmo _)))
          have HD2 := Lib.hid ((HD.out.drewN nq).setM (k : Int))
          have hc1 := (HD.out.drewN nq).c1
          have hfr := (HD.out.drewN nq).fr
          clear HD se sc hcut hmo q3 q4 q6 q4' r4 r5 r6 r8
          go_wp2
          go_roundw
          case rel => exact ⟨k + 1, k, by omega, by omega, by go_num, HF, HD2⟩
          case measure => simp [intOf]; omega
        · have HF : Hid (MoF (x.extract 8 11) ((k + 1 : Nat) : Int) c) := Lib.hid (by have := HM.out.miss he; simpa using this)
          have hq : ((moB (k : Int)).toList == (x.extract 8 11).toList) = false := by rw [HQ.out]; simpa using he
          clear HQ he HM
          generalize moB (k : Int) = N at *
          go_wp2
          go_quiet ((go_at_call 65; exact Calls.quiet_of_same (hmo _)))
          have HD2 := Lib.hid (HD.out.drewN nq)
          clear HD se sc hcut hmo q3 q4 q6 q4' r4 r5 r6 r8
          go_wp2
          go_roundw
          case rel => exact ⟨k + 1, c, by omega, by omega, by go_num, HF, HD2⟩
          case measure => simp [intOf]; omega
      · obtain rfl : k = 13 := by omega
        have hMc := HM.out.end_
        clear HM
        have HMc := Lib.hid hMc
        clear hMc
        go_wp2
        go_quiet (first | (go_at_call 79; first | (with_reducible exact Calls.quiet_of_same (hA _)) | (with_reducible exact Calls.quiet_of_same (hB _)) | (with_reducible exact Calls.quiet_of_same (hC _))))
        have HD2 := HD.out.drewN nq
        have E5 := HD2.ext
        have k0 := HD2.c0
        have k1 := HD2.c1
        have k2 := HD2.c2
        have k3 := HD2.c3
        clear HD HD2 hA hB hC
        generalize wr.drewN nq = W5 at *
        by_cases hh : hmsB A B C
        · obtain ⟨⟨a0, a9⟩, ⟨b0', b9⟩, ⟨e0, e9⟩⟩ := hh
          clear HB1
          have hS := HS.out
          have hS0 : 0 ≤ S := by omega
          have hS9 : S < 86400 := by omega
          clear hS
          rw [← HMc.out] at HB2 HO HN
          clear HMc
          go_wp2_with fail
          generalize 3600 * A + 60 * B + C = S' at *
          obtain rfl := HS.out
          clear HS
          cases hv : rdB Y c D with
          | true =>
            have hTk := hT W5 Y c D 0 S
            rw [(tk_yes ⟨hv, hS0, hS9⟩).1, (tk_yes ⟨hv, hS0, hS9⟩).2] at hTk
            have htk := num_tick hv hS0 hS9
            have HO2 := Lib.hid HO.out
            have HN2 := Lib.hid (HN.out hv hS0 hS9)
            clear HB2 HO HN hv hT
            generalize num Y c D * 86400 + S = T at *
            have hX2 := fun W => hX W T
            rw [txR_yes (inT_iff.2 htk)] at hX2
            clear hX htk
            with_reducible refine hTk.mono ?_
            rintro e w5 ⟨rfl, hb5⟩
            have E6 : Ext w w5 := Ext.tr E5 hb5
            clear hTk hb5 E5 k0 k1 k2 k3
            have HQ := Lib.hid (str_eq (txB T) x)
            by_cases he : txB T = x
            · have HF := Lib.hid (HN2.out he)
              have hq : ((txB T).toList == x.toList) = true := by rw [HQ.out]; simpa using he
              have hq' : ((txB T).toList != x.toList) = false := by rw [bne, hq]; rfl
              clear HO2 HN2 HQ he
              generalize txB T = U at *
              go_wp2_with (go_at_call 42; ((with_reducible refine (hX2 _).mono ?_); rintro e w6 ⟨rfl, hb6⟩))
              go_ret2
              exact ⟨ret_two ⟨HF.out.1.symm, HF.out.2.symm⟩, Ext.tr E6 hb6⟩
            · have HF := Lib.hid (HO2.out he)
              have hq : ((txB T).toList == x.toList) = false := by rw [HQ.out]; simpa using he
              have hq' : ((txB T).toList != x.toList) = true := by rw [bne, hq]; rfl
              clear HO2 HN2 HQ he
              generalize txB T = U at *
              go_wp2_with (go_at_call 42; ((with_reducible refine (hX2 _).mono ?_); rintro e w6 ⟨rfl, hb6⟩))
              go_ret2
              exact ⟨ret_two ⟨HF.out.1.symm, HF.out.2.symm⟩, Ext.tr E6 hb6⟩
          | false =>
            have hv' : ¬(rdB Y c D = true ∧ 0 ≤ S ∧ S < 86400) := by rw [hv]; simp
            have hTk := hT W5 Y c D 0 S
            rw [(tk_no hv').1, (tk_no hv').2] at hTk
            have HF := Lib.hid (HB2.out (by rw [hv]; simp))
            clear HB2 HO HN hv hv' hT hX
            with_reducible refine hTk.mono ?_
            rintro e w5 ⟨rfl, hb5⟩
            clear hTk
            go_wp2
            go_ret2
            exact ⟨ret_two ⟨HF.out.1.symm, HF.out.2.symm⟩, Ext.tr E5 hb5⟩
        · have HF := Lib.hid (HB1.out hh)
          have hbad : A < 0 ∨ (0 ≤ A ∧ 23 < A) ∨ (0 ≤ A ∧ A ≤ 23 ∧ B < 0) ∨ (0 ≤ A ∧ A ≤ 23 ∧ 0 ≤ B ∧ 59 < B) ∨ (0 ≤ A ∧ A ≤ 23 ∧ 0 ≤ B ∧ B ≤ 59 ∧ C < 0) ∨ (0 ≤ A ∧ A ≤ 23 ∧ 0 ≤ B ∧ B ≤ 59 ∧ 0 ≤ C ∧ 59 < C) := by unfold hmsB at hh; omega
          clear HB1 HB2 HO HN hh hT hX
          rcases hbad with h | ⟨h1, h2⟩ | ⟨h1, h2, h3⟩ | ⟨h1, h2, h3, h4⟩ | ⟨h1, h2, h3, h4, h5⟩ | ⟨h1, h2, h3, h4, h5, h6⟩
          all_goals
            go_wp2
            go_ret2
            exact ⟨ret_two ⟨HF.out.1.symm, HF.out.2.symm⟩, E5⟩
theorem rparse_any (x : ByteArray) (w : World) :
    Calls Tryz.prog 55 #[.string x] w fun e w' => e = .returned (.tuple #[.int .i64 (parV x), .int .i64 (parE x)]) ∧ Below w.heap.size w w' := by
  by_cases hz : x.size = 29
  · exact rparse_yes x w hz
  · have HF := Lib.hid (parse_size hz)
    have hz' : ((x.size : Int) != 29) = true := by rw [bne_iff_ne]; omega
    go_enter Tryz.func55, Tryz.ntmps55
    go_wp2
    go_ret2
    exact ⟨ret_two ⟨HF.out.1.symm, HF.out.2.symm⟩, by go_grown⟩
end Go.Proofs.YtomcoacndppkcaaGreatDoor.D
