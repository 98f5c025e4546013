/-
  The tick of a date, of the program.
-/
import Derived.Test.YtomcoacndppkcaaGreatDoorDZ
import Derived.Test.YtomcoacndppkcaaGreatDoorRegionT
namespace Go.Proofs.YtomcoacndppkcaaGreatDoor.D
open Go Go.RowKit

/-- a pointer to a block of the call's own, with these cells -/
def NewAt (n0 : Nat) (C : Array Value) (v : Value) (W : World) : Prop := ∃ B, v = .pointer (some ⟨B, 0, none⟩) ∧ n0 ≤ B ∧ B < W.heap.size ∧ (∀ i, W.cell? ⟨B, i, none⟩ = C[i]?) ∧ (∀ i, W.frozen? ⟨B, i, none⟩ = false)
theorem NewAt.keep {n0 : Nat} {C : Array Value} (v : Value) (W W' : World) (h : NewAt n0 C v W) (e : Ext W W') : NewAt n0 C v W' := by
  obtain ⟨B, rfl, h0, h1, h2, h3⟩ := h
  obtain ⟨c, f⟩ := bcell e
  exact ⟨B, rfl, h0, Nat.lt_of_lt_of_le h1 e.size, fun i => by rw [c _ _ h1]; exact h2 i, fun i => by rw [f _ _ h1]; exact h3 i⟩
theorem NewAt.mk {n0 : Nat} (C : Array Value) (T : TypeId) (W : World) (h : n0 ≤ W.heap.size) : NewAt n0 C (.pointer (some ⟨W.heap.size, 0, none⟩)) (W.alloc (.cells C T)) :=
  ⟨W.heap.size, rfl, h, by simp, fun i => World.cell?_alloc_new _ _ _ _, fun i => by go_simp⟩

theorem parse_bad {x : ByteArray} (h : ¬(rdB (numP (x.extract 12 16)) (moX (x.extract 8 11)) (numP (x.extract 5 7)) = true ∧ 0 ≤ secP x ∧ secP x < 86400)) : parV x = 0 ∧ parE x = 2 :=
  par_eq (Or.inr ⟨rfl, rfl, fun _ ht => h ⟨(parts_P ht).2.1, (parts_P ht).2.2.1, (parts_P ht).2.2.2.1⟩⟩)
theorem parse_off {x : ByteArray} (h : txB (num (numP (x.extract 12 16)) (moX (x.extract 8 11)) (numP (x.extract 5 7)) * 86400 + secP x) ≠ x) : parV x = 0 ∧ parE x = 2 :=
  par_eq (Or.inr ⟨rfl, rfl, fun _ ht => h (by rw [(parts_P ht).2.2.2.2]; exact ht.2)⟩)
theorem num_tick {y m d s : Int} (h : rdB y m d = true) (h0 : 0 ≤ s) (h9 : s < 86400) : 0 ≤ num y m d * 86400 + s ∧ num y m d * 86400 + s ≤ 253402300799 := by
  have := num_bd h; omega
theorem parse_on {x : ByteArray} (hr : rdB (numP (x.extract 12 16)) (moX (x.extract 8 11)) (numP (x.extract 5 7)) = true) (h0 : 0 ≤ secP x) (h9 : secP x < 86400)
    (h : txB (num (numP (x.extract 12 16)) (moX (x.extract 8 11)) (numP (x.extract 5 7)) * 86400 + secP x) = x) : parV x = num (numP (x.extract 12 16)) (moX (x.extract 8 11)) (numP (x.extract 5 7)) * 86400 + secP x ∧ parE x = 0 :=
  par_eq (Or.inl ⟨rfl, num_tick hr h0 h9, h⟩)
theorem parse_size {x : ByteArray} (h : x.size ≠ 29) : parV x = 0 ∧ parE x = 2 := par_eq (Or.inr ⟨rfl, rfl, fun _ ht => h (parts_P ht).1⟩)

set_option maxRecDepth 100000 in
set_option maxHeartbeats 8000000 in
theorem parse_yes (x : ByteArray) (w : World) (hz : x.size = 29) (hw : LaidD w) :
    Calls Tryz.prog 51 #[.string x] w fun e w' => e = .returned (.tuple #[.int .i64 (parV x), .int .i64 (parE x)]) ∧ Below w.heap.size w w' := by
  have hY : ∀ W, Ext w W → Calls Tryz.prog 76 #[.string (x.extract 12 16)] W fun e w' => e = .returned (.int .i64 (numP (x.extract 12 16))) ∧ Below W.heap.size W w' := fun W hW => number_any _ W (by rw [ByteArray.size_extract]; omega) (hw.below hW)
  have hYb := numP_bd (x := x.extract 12 16) (by rw [ByteArray.size_extract]; omega)
  have hD : ∀ W, Ext w W → Calls Tryz.prog 76 #[.string (x.extract 5 7)] W fun e w' => e = .returned (.int .i64 (numP (x.extract 5 7))) ∧ Below W.heap.size W w' := fun W hW => number_any _ W (by rw [ByteArray.size_extract]; omega) (hw.below hW)
  have hDb := numP_bd (x := x.extract 5 7) (by rw [ByteArray.size_extract]; omega)
  have hA : ∀ W, Ext w W → Calls Tryz.prog 76 #[.string (x.extract 17 19)] W fun e w' => e = .returned (.int .i64 (numP (x.extract 17 19))) ∧ Below W.heap.size W w' := fun W hW => number_any _ W (by rw [ByteArray.size_extract]; omega) (hw.below hW)
  have hAb := numP_bd (x := x.extract 17 19) (by rw [ByteArray.size_extract]; omega)
  have hB : ∀ W, Ext w W → Calls Tryz.prog 76 #[.string (x.extract 20 22)] W fun e w' => e = .returned (.int .i64 (numP (x.extract 20 22))) ∧ Below W.heap.size W w' := fun W hW => number_any _ W (by rw [ByteArray.size_extract]; omega) (hw.below hW)
  have hBb := numP_bd (x := x.extract 20 22) (by rw [ByteArray.size_extract]; omega)
  have hC : ∀ W, Ext w W → Calls Tryz.prog 76 #[.string (x.extract 23 25)] W fun e w' => e = .returned (.int .i64 (numP (x.extract 23 25))) ∧ Below W.heap.size W w' := fun W hW => number_any _ W (by rw [ByteArray.size_extract]; omega) (hw.below hW)
  have hCb := numP_bd (x := x.extract 23 25) (by rw [ByteArray.size_extract]; omega)
  have hM : ∀ W, Ext w W → Calls Tryz.prog 77 #[.string (x.extract 8 11)] W fun e w' => e = .returned (.int .i64 (moX (x.extract 8 11))) ∧ Below W.heap.size W w' := fun W hW => monthOf_any _ W (hw.below hW)
  have hMb := moX_bd (x.extract 8 11)
  have HS : Hid (secP x = numP (x.extract 17 19) * 3600 + numP (x.extract 20 22) * 60 + numP (x.extract 23 25)) := Lib.hid rfl
  have hT : ∀ W y m d k s, Ext w W → Calls Tryz.prog 78 #[.agg #[.int .i64 y, .int .i64 m, .int .i64 d, .int .i64 k], .int .i64 s] W fun e w' => e = .returned (.tuple #[.int .i64 (tkV y m d s), .int .i64 (tkE y m d s)]) ∧ Below W.heap.size W w' := fun W y m d k s hW => tick_any y m d k s W (hw.below hW)
  have hX : ∀ W t, Ext w W → Calls Tryz.prog 28 #[.int .i64 t] W fun e w' => e = .returned (txR t) ∧ Below W.heap.size W w' := fun W t hW => text_any t W (hw.below hW)
  have HB := Lib.hid (@parse_bad x)
  have HO := Lib.hid (@parse_off x)
  have HN := Lib.hid (@parse_on x)
  clear hw
  generalize secP x = S at *
  generalize numP (x.extract 12 16) = Y at *
  generalize moX (x.extract 8 11) = M at *
  generalize numP (x.extract 5 7) = D at *
  generalize numP (x.extract 17 19) = A at *
  generalize numP (x.extract 20 22) = B at *
  generalize numP (x.extract 23 25) = C at *
  have sA : IntKind.i64.wrap (A * 3600) = A * 3600 := IntWalk.i64_in _ (by omega)
  have sB : IntKind.i64.wrap (B * 60) = B * 60 := IntWalk.i64_in _ (by omega)
  have sAB : IntKind.i64.wrap (A * 3600 + B * 60) = A * 3600 + B * 60 := IntWalk.i64_in _ (by omega)
  have sABC : IntKind.i64.wrap (A * 3600 + B * 60 + C) = A * 3600 + B * 60 + C := IntWalk.i64_in _ (by omega)
  go_enter Tryz.func51, Tryz.ntmps51
  go_wp2
  refine' wp_region_made_tail (m := 11) (rels := relsOf ((.val _) :: (.val _) :: (.val _) :: (.val _) :: (.val _) :: (.val _) :: (.val _) :: (.val _) :: (.val _) :: (.val _) :: (.rel (NewAt w.heap.size #[.int .i64 0, .int .i64 0, .int .i64 0, .int .i64 0])) :: [])) (w := w) 53 (by kernel_rfl) (by kernel_rfl) (by rfl) (relsOf_stable ?sta) ?wka
  case sta => exact stable_val (stable_val (stable_val (stable_val (stable_val (stable_val (stable_val (stable_val (stable_val (stable_val (stable_rel NewAt.keep (stable_nil)))))))))))
  case wka =>
    refine' walkT_val (by rfl) ?aa0 (fun K hK => ?ba0); (case aa0 => (intro W hW hd; clear hd; go_simp; first | exact ⟨Ext.rf _, rfl⟩ | rfl)); (go_simp; refine hK _ ?_; clear hK K)
    refine' walkT_val (by rfl) ?aa1 (fun K hK => ?ba1); (case aa1 => (intro W hW hd; clear hd; go_simp; first | exact ⟨Ext.rf _, rfl⟩ | rfl)); (go_simp; refine hK _ ?_; clear hK K)
    refine' walkT_val (by rfl) ?aa2 (fun K hK => ?ba2); (case aa2 => (intro W hW hd; go_simp; (clear hd; exact makes_val (hY _ hW)))); (go_simp; refine hK _ ?_; clear hK K)
    refine' walkT_val (by rfl) ?aa3 (fun K hK => ?ba3); (case aa3 => (intro W hW hd; clear hd; go_simp; first | exact ⟨Ext.rf _, rfl⟩ | rfl)); (go_simp; refine hK _ ?_; clear hK K)
    refine' walkT_val (by rfl) ?aa4 (fun K hK => ?ba4); (case aa4 => (intro W hW hd; clear hd; go_simp; first | exact ⟨Ext.rf _, rfl⟩ | rfl)); (go_simp; refine hK _ ?_; clear hK K)
    refine' walkT_val (by rfl) ?aa5 (fun K hK => ?ba5); (case aa5 => (intro W hW hd; go_simp; (clear hd; exact makes_val (hM _ hW)))); (go_simp; refine hK _ ?_; clear hK K)
    refine' walkT_val (by rfl) ?aa6 (fun K hK => ?ba6); (case aa6 => (intro W hW hd; clear hd; go_simp; first | exact ⟨Ext.rf _, rfl⟩ | rfl)); (go_simp; refine hK _ ?_; clear hK K)
    refine' walkT_val (by rfl) ?aa7 (fun K hK => ?ba7); (case aa7 => (intro W hW hd; clear hd; go_simp; first | exact ⟨Ext.rf _, rfl⟩ | rfl)); (go_simp; refine hK _ ?_; clear hK K)
    refine' walkT_val (by rfl) ?aa8 (fun K hK => ?ba8); (case aa8 => (intro W hW hd; go_simp; (clear hd; exact makes_val (hD _ hW)))); (go_simp; refine hK _ ?_; clear hK K)
    refine' walkT_val (by rfl) ?aa9 (fun K hK => ?ba9); (case aa9 => (intro W hW hd; clear hd; go_simp; first | exact ⟨Ext.rf _, rfl⟩ | rfl)); (go_simp; refine hK _ ?_; clear hK K)
    refine' walkT_rel (by rfl) ?aa10 (fun va10 K hK => ?ba10); (case aa10 => (intro W hW hd; go_simp; (clear hd; exact ⟨(Below.refl _ _).alloc (Nat.le_refl _) _, NewAt.mk _ _ _ hW.size⟩))); (go_simp; refine hK _ ?_; clear hK K)
    refine walkT_end (fun W hW hfin => ?_)
    have hp := finT_rel hfin 10 4 _ (by decide) (by rfl) (by rfl) (by rfl)
    clear hfin
    obtain ⟨b, rfl, hb0, hb1, hbc, hbf⟩ := hp
    have c0 : W.cell? ⟨b, 0, none⟩ = some (.int .i64 0) := hbc 0
    have c1 : W.cell? ⟨b, 1, none⟩ = some (.int .i64 0) := hbc 1
    have c2 : W.cell? ⟨b, 2, none⟩ = some (.int .i64 0) := hbc 2
    have c3 : W.cell? ⟨b, 3, none⟩ = some (.int .i64 0) := hbc 3
    clear hbc
    simp only [List.drop_succ_cons, List.drop_zero]
    have E3 : Ext w ((((W.setCell ⟨b, 0, none⟩ (.int .i64 Y)).setCell ⟨b, 1, none⟩ (.int .i64 M)).setCell ⟨b, 2, none⟩ (.int .i64 D)).setCell ⟨b, 3, none⟩ (.int .i64 0)) := (((hW.setCell hb0 _).setCell hb0 _).setCell hb0 _).setCell hb0 _
    have d0 : ((((W.setCell ⟨b, 0, none⟩ (.int .i64 Y)).setCell ⟨b, 1, none⟩ (.int .i64 M)).setCell ⟨b, 2, none⟩ (.int .i64 D)).setCell ⟨b, 3, none⟩ (.int .i64 0)).cell? ⟨b, 0, none⟩ = some (.int .i64 Y) := by go_simp
    have d1 : ((((W.setCell ⟨b, 0, none⟩ (.int .i64 Y)).setCell ⟨b, 1, none⟩ (.int .i64 M)).setCell ⟨b, 2, none⟩ (.int .i64 D)).setCell ⟨b, 3, none⟩ (.int .i64 0)).cell? ⟨b, 1, none⟩ = some (.int .i64 M) := by go_simp
    have d2 : ((((W.setCell ⟨b, 0, none⟩ (.int .i64 Y)).setCell ⟨b, 1, none⟩ (.int .i64 M)).setCell ⟨b, 2, none⟩ (.int .i64 D)).setCell ⟨b, 3, none⟩ (.int .i64 0)).cell? ⟨b, 2, none⟩ = some (.int .i64 D) := by go_simp
    have d3 : ((((W.setCell ⟨b, 0, none⟩ (.int .i64 Y)).setCell ⟨b, 1, none⟩ (.int .i64 M)).setCell ⟨b, 2, none⟩ (.int .i64 D)).setCell ⟨b, 3, none⟩ (.int .i64 0)).cell? ⟨b, 3, none⟩ = some (.int .i64 0) := by go_simp
    have d4 : b < ((((W.setCell ⟨b, 0, none⟩ (.int .i64 Y)).setCell ⟨b, 1, none⟩ (.int .i64 M)).setCell ⟨b, 2, none⟩ (.int .i64 D)).setCell ⟨b, 3, none⟩ (.int .i64 0)).heap.size := by go_simp
    go_wp2
    generalize (((W.setCell ⟨b, 0, none⟩ (.int .i64 Y)).setCell ⟨b, 1, none⟩ (.int .i64 M)).setCell ⟨b, 2, none⟩ (.int .i64 D)).setCell ⟨b, 3, none⟩ (.int .i64 0) = W3 at *
    clear c0 c1 c2 c3 hbf hb1 hY hD hM hW
    refine' wp_region_made (rels := relsOf ((.val _) :: (.val _) :: (.val _) :: (.val _) :: (.val _) :: (.val _) :: (.val _) :: (.val _) :: (.val _) :: (.val _) :: (.val _) :: (.val _) :: (.val _) :: (.val _) :: [])) (w := W3) 53 (by kernel_rfl) (by kernel_rfl) (by rfl) (relsOf_stable ?stb) ?wkb
    case stb => exact stable_val (stable_val (stable_val (stable_val (stable_val (stable_val (stable_val (stable_val (stable_val (stable_val (stable_val (stable_val (stable_val (stable_val (stable_nil))))))))))))))
    case wkb =>
      refine' walk_val (by rfl) ?ab0 (fun K hK => ?bb0); (case ab0 => (intro W hW hd; clear hd; go_simp; first | exact ⟨Ext.rf _, rfl⟩ | rfl)); (go_simp; refine hK _ ?_; clear hK K)
      refine' walk_val (by rfl) ?ab1 (fun K hK => ?bb1); (case ab1 => (intro W hW hd; clear hd; go_simp; first | exact ⟨Ext.rf _, rfl⟩ | rfl)); (go_simp; refine hK _ ?_; clear hK K)
      refine' walk_val (by rfl) ?ab2 (fun K hK => ?bb2); (case ab2 => (intro W hW hd; go_simp; (clear hd; exact makes_val (hA _ (Ext.tr E3 hW))))); (go_simp; refine hK _ ?_; clear hK K)
      refine' walk_val (by rfl) ?ab3 (fun K hK => ?bb3); (case ab3 => (intro W hW hd; clear hd; go_simp; first | exact ⟨Ext.rf _, rfl⟩ | rfl)); (go_simp; refine hK _ ?_; clear hK K)
      refine' walk_val (by rfl) ?ab4 (fun K hK => ?bb4); (case ab4 => (intro W hW hd; clear hd; go_simp; first | exact ⟨Ext.rf _, rfl⟩ | rfl)); (go_simp; refine hK _ ?_; clear hK K)
      refine' walk_val (by rfl) ?ab5 (fun K hK => ?bb5); (case ab5 => (intro W hW hd; clear hd; go_simp; first | exact ⟨Ext.rf _, rfl⟩ | rfl)); (go_simp; refine hK _ ?_; clear hK K)
      refine' walk_val (by rfl) ?ab6 (fun K hK => ?bb6); (case ab6 => (intro W hW hd; go_simp; (clear hd; exact makes_val (hB _ (Ext.tr E3 hW))))); (go_simp; refine hK _ ?_; clear hK K)
      refine' walk_val (by rfl) ?ab7 (fun K hK => ?bb7); (case ab7 => (intro W hW hd; clear hd; go_simp; first | exact ⟨Ext.rf _, rfl⟩ | rfl)); (go_simp; refine hK _ ?_; clear hK K)
      refine' walk_val (by rfl) ?ab8 (fun K hK => ?bb8); (case ab8 => (intro W hW hd; clear hd; go_simp; first | exact ⟨Ext.rf _, rfl⟩ | rfl)); (go_simp; refine hK _ ?_; clear hK K)
      refine' walk_val (by rfl) ?ab9 (fun K hK => ?bb9); (case ab9 => (intro W hW hd; clear hd; go_simp; first | exact ⟨Ext.rf _, rfl⟩ | rfl)); (go_simp; refine hK _ ?_; clear hK K)
      refine' walk_val (by rfl) ?ab10 (fun K hK => ?bb10); (case ab10 => (intro W hW hd; clear hd; go_simp; first | exact ⟨Ext.rf _, rfl⟩ | rfl)); (go_simp; refine hK _ ?_; clear hK K)
      refine' walk_val (by rfl) ?ab11 (fun K hK => ?bb11); (case ab11 => (intro W hW hd; go_simp; (clear hd; exact makes_val (hC _ (Ext.tr E3 hW))))); (go_simp; refine hK _ ?_; clear hK K)
      refine' walk_val (by rfl) ?ab12 (fun K hK => ?bb12); (case ab12 => (intro W hW hd; clear hd; go_simp; first | exact ⟨Ext.rf _, rfl⟩ | rfl)); (go_simp; refine hK _ ?_; clear hK K)
      refine' walk_val (by rfl) ?ab13 (fun K hK => ?bb13); (case ab13 => (intro W hW hd; clear hd; go_simp; first | exact ⟨Ext.rf _, rfl⟩ | rfl)); (go_simp; refine hK _ ?_; clear hK K)
      refine walk_end (fun W hW hfin => ?_)
      clear hfin sA sB sAB sABC hA hB hC
      obtain ⟨hc, hf⟩ := bcell hW
      have k0 : W.cell? ⟨b, 0, none⟩ = some (.int .i64 Y) := by rw [hc _ _ d4]; exact d0
      have k1 : W.cell? ⟨b, 1, none⟩ = some (.int .i64 M) := by rw [hc _ _ d4]; exact d1
      have k2 : W.cell? ⟨b, 2, none⟩ = some (.int .i64 D) := by rw [hc _ _ d4]; exact d2
      have k3 : W.cell? ⟨b, 3, none⟩ = some (.int .i64 0) := by rw [hc _ _ d4]; exact d3
      have E4 : Ext w W := Ext.tr E3 hW
      clear hc hf d0 d1 d2 d3 d4 hW E3
      clear hYb hDb hAb hBb hCb hMb
      go_wp2_with fail
      generalize A * 3600 + B * 60 + C = S' at *
      obtain rfl := HS.out
      clear HS
      by_cases hv : rdB Y M D = true ∧ 0 ≤ S ∧ S < 86400
      · have hTk := hT W Y M D 0 S E4
        rw [(tk_yes hv).1, (tk_yes hv).2] at hTk
        have htk := num_tick hv.1 hv.2.1 hv.2.2
        have HO2 := Lib.hid HO.out
        have HN2 := Lib.hid (HN.out hv.1 hv.2.1 hv.2.2)
        clear HB HO HN hv hT
        generalize num Y M D * 86400 + S = T at *
        have hX2 := fun W => hX W T
        rw [txR_yes (inT_iff.2 htk)] at hX2
        clear hX htk
        with_reducible refine hTk.mono ?_
        rintro e w5 ⟨rfl, hb5⟩
        have E5 : Ext w w5 := Ext.tr E4 hb5
        clear hTk hb5 E4 k0 k1 k2 k3
        have HQ := Lib.hid (str_eq (txB T) x)
        by_cases he : txB T = x
        · have HF := Lib.hid (HN2.out he)
          have hq : ((txB T).toList == x.toList) = true := by rw [HQ.out]; simpa using he
          have hq' : ((txB T).toList != x.toList) = false := by rw [bne, hq]; rfl
          clear HO2 HN2 HQ he
          generalize txB T = U at *
          go_wp2_with (go_at_call 28; ((with_reducible refine (hX2 _ E5).mono ?_); rintro e w6 ⟨rfl, hb6⟩))
          go_ret2
          exact ⟨ret_two ⟨HF.out.1.symm, HF.out.2.symm⟩, Ext.tr E5 hb6⟩
        · have HF := Lib.hid (HO2.out he)
          have hq : ((txB T).toList == x.toList) = false := by rw [HQ.out]; simpa using he
          have hq' : ((txB T).toList != x.toList) = true := by rw [bne, hq]; rfl
          clear HO2 HN2 HQ he
          generalize txB T = U at *
          go_wp2_with (go_at_call 28; ((with_reducible refine (hX2 _ E5).mono ?_); rintro e w6 ⟨rfl, hb6⟩))
          go_ret2
          exact ⟨ret_two ⟨HF.out.1.symm, HF.out.2.symm⟩, Ext.tr E5 hb6⟩
      · have hTk := hT W Y M D 0 S E4
        rw [(tk_no hv).1, (tk_no hv).2] at hTk
        have HF := Lib.hid (HB.out hv)
        clear HB HO HN hv hT hX
        with_reducible refine hTk.mono ?_
        rintro e w5 ⟨rfl, hb5⟩
        clear hTk
        go_wp2
        go_ret2
        exact ⟨ret_two ⟨HF.out.1.symm, HF.out.2.symm⟩, Ext.tr E4 hb5⟩
theorem parse_any (x : ByteArray) (w : World) (hw : LaidD w) :
    Calls Tryz.prog 51 #[.string x] w fun e w' => e = .returned (.tuple #[.int .i64 (parV x), .int .i64 (parE x)]) ∧ Below w.heap.size w w' := by
  by_cases hz : x.size = 29
  · exact parse_yes x w hz hw
  · have HF := Lib.hid (parse_size hz)
    have hz' : ((x.size : Int) != 29) = true := by rw [bne_iff_ne]; omega
    clear hw
    go_enter Tryz.func51, Tryz.ntmps51
    go_wp2
    go_ret2
    exact ⟨ret_two ⟨HF.out.1.symm, HF.out.2.symm⟩, by go_grown⟩
end Go.Proofs.YtomcoacndppkcaaGreatDoor.D
