/-
  What a text is read as, by the reference: lines and fields.
-/
import Derived.Test.YtmlbinbhicdljaaDoorRegionT
import Derived.Test.YtmlbinbhicdljaaDoorGQ
import Derived.Test.YtmlbinbhicdljaaDoorET
namespace Go.Proofs.YtmlbinbhicdljaaDoor
open Go Go.RowKit

theorem bcell {W w1 : World} (hb : Below W.heap.size W w1) : (∀ b o, b < W.heap.size → w1.cell? ⟨b, o, none⟩ = W.cell? ⟨b, o, none⟩) ∧ (∀ b o, b < W.heap.size → w1.frozen? ⟨b, o, none⟩ = W.frozen? ⟨b, o, none⟩) :=
  ⟨fun b o h => hb.cell (p := ⟨b, o, none⟩) h, fun b o h => hb.frozen (p := ⟨b, o, none⟩) h⟩
/-- a pointer to a block of the call's own, with these cells -/
def NewAt (n0 : Nat) (C : Array Value) (v : Value) (W : World) : Prop := ∃ B, v = .pointer (some ⟨B, 0, none⟩) ∧ n0 < B ∧ B < W.heap.size ∧ (∀ i, W.cell? ⟨B, i, none⟩ = C[i]?) ∧ (∀ i, W.frozen? ⟨B, i, none⟩ = false)
theorem NewAt.keep {n0 : Nat} {C : Array Value} (v : Value) (W W' : World) (h : NewAt n0 C v W) (e : Ext W W') : NewAt n0 C v W' := by
  obtain ⟨B, rfl, h0, h1, h2, h3⟩ := h
  obtain ⟨c, f⟩ := bcell e
  exact ⟨B, rfl, h0, Nat.lt_of_lt_of_le h1 e.size, fun i => by rw [c _ _ h1]; exact h2 i, fun i => by rw [f _ _ h1]; exact h3 i⟩
theorem NewAt.mk {n0 : Nat} (C : Array Value) (T : TypeId) (W : World) (h : n0 + 1 ≤ W.heap.size) : NewAt n0 C (.pointer (some ⟨W.heap.size, 0, none⟩)) (W.alloc (.cells C T)) :=
  ⟨W.heap.size, rfl, h, by simp, fun i => World.cell?_alloc_new _ _ _ _, fun i => by go_simp⟩

/-- where the line ends that begins at i -/
def posL (S : List UInt8) (i : Nat) : Int := match cutLine (S.drop i) with
  | none => -1
  | some p => ((i + p.1.length : Nat) : Int)
theorem pos_hit {s : ByteArray} {i : Nat} (h : i + 1 < s.size) (h1 : (s[i]'(by omega)).toNat = 13) (h2 : s[i + 1].toNat = 10) : posL s.data.toList i = (i : Int) := by
  unfold posL
  rw [drop_at4 s i (by omega), drop_at4 s (i + 1) h, (u8_iff _ 13 (by omega)).2 h1, (u8_iff _ 10 (by omega)).2 h2]
  unfold cutLine
  rw [if_pos ⟨rfl, rfl⟩]
  simp
theorem pos_miss {s : ByteArray} {i : Nat} (h : i + 1 < s.size) (hn : ¬ ((s[i]'(by omega)).toNat = 13 ∧ s[i + 1].toNat = 10)) : posL s.data.toList i = posL s.data.toList (i + 1) := by
  unfold posL
  rw [drop_at4 s i (by omega)]
  have hh : (s.data.toList.drop (i + 1)).head? = some s[i + 1] := by rw [drop_at4 s (i + 1) h]; rfl
  conv => lhs; unfold cutLine
  rw [if_neg]
  · cases cutLine (s.data.toList.drop (i + 1)) with
    | none => rfl
    | some p => simp; omega
  · rintro ⟨e1, e2⟩
    rw [hh] at e2
    exact hn ⟨(u8_iff _ 13 (by omega)).1 e1, (u8_iff _ 10 (by omega)).1 (Option.some.inj e2)⟩
theorem pos_end {s : ByteArray} {i : Nat} (h : ¬ i + 1 < s.size) : posL s.data.toList i = -1 := by
  unfold posL
  by_cases h0 : i < s.size
  · rw [drop_at4 s i h0, List.drop_eq_nil_of_le (by rw [← Lib.size_eq]; omega)]
    unfold cutLine
    rw [if_neg (by simp)]
    unfold cutLine; rfl
  · rw [List.drop_eq_nil_of_le (by rw [← Lib.size_eq]; omega)]
    unfold cutLine; rfl

set_option maxHeartbeats 2000000 in
theorem rline_any (s : ByteArray) (a : Nat) (w : World) (hs : s.size ≤ 1000000) (ha : a ≤ s.size) :
    Calls Tryd.prog 54 #[.string s, .int .i64 a] w fun e w' => e = .returned (.int .i64 (posL s.data.toList a)) ∧ w' = w := by
  obtain ⟨D, HD⟩ : ∃ D, Hid (posL s.data.toList a = D) := ⟨_, rfl⟩
  rw [HD.out]
  go_enter Tryd.func54, Tryd.ntmps54
  go_wp2
  go_loop [5] (fun v => ∃ i : Nat, v = .int .i64 i ∧ i ≤ s.size ∧ Hid (posL s.data.toList i = D)) (fun v => s.size - (intOf v).toNat)
  case atStart => exact ⟨a, rfl, ha, HD⟩
  case round =>
    clear HD ha
    obtain ⟨i, rfl, hi, HG⟩ := hrel
    by_cases h : i + 1 < s.size
    · have HH := Lib.hid (@pos_hit s i h)
      have HM := Lib.hid (@pos_miss s i h)
      have hil : i < s.size := by omega
      generalize hx : (s[i]'hil).toNat = x at *
      generalize hy : s[i + 1].toNat = y at *
      have e1 : (i : Int) + 1 < (s.size : Int) := by omega
      have e2 : IntKind.i64.wrap ((i : Int) + 1) = (i : Int) + 1 := IntWalk.i64_in _ (by omega)
      have e3 : (0 : Int) ≤ (i : Int) + 1 := by omega
      have e4 : ((i : Int) + 1).toNat = i + 1 := by omega
      by_cases g1 : x = 13
      · have b1 : ((x : Int) == 13) = true := beqi_t (by omega)
        by_cases g2 : y = 10
        · have b2 : ((y : Int) == 10) = true := beqi_t (by omega)
          have HF : Hid (D = (i : Int)) := by unfold Hid; rw [← HG.out]; exact HH.out g1 g2
          clear HH HM HG
          go_wp2
          go_ret
          exact ⟨ret_int HF.out.symm, rfl⟩
        · have b2 : ((y : Int) == 10) = false := beqi_f (by omega)
          have HK : Hid (posL s.data.toList (i + 1) = D) := by unfold Hid; rw [← HG.out]; exact (HM.out (fun q => g2 q.2)).symm
          clear HH HM HG
          go_wp2
          go_round
          case rel => exact ⟨i + 1, by go_num, by omega, HK⟩
          case measure => simp [intOf]; omega
      · have b1 : ((x : Int) == 13) = false := beqi_f (by omega)
        have HK : Hid (posL s.data.toList (i + 1) = D) := by unfold Hid; rw [← HG.out]; exact (HM.out (fun q => g1 q.1)).symm
        clear HH HM HG
        go_wp2
        go_round
        case rel => exact ⟨i + 1, by go_num, by omega, HK⟩
        case measure => simp [intOf]; omega
    · have HF : Hid (D = -1) := by unfold Hid; rw [← HG.out]; exact pos_end h
      have e1 : ¬ (i : Int) + 1 < (s.size : Int) := by omega
      have e2 : IntKind.i64.wrap ((i : Int) + 1) = (i : Int) + 1 := IntWalk.i64_in _ (by omega)
      clear HG
      go_wp2
      go_ret
      exact ⟨ret_int HF.out.symm, rfl⟩

/-- how far the search for a colon is -/
def ColAt (s : ByteArray) (k : Nat) : Prop := cut58 s.data.toList = (cut58 (s.data.toList.drop k)).map fun p => (s.data.toList.take k ++ p.1, p.2)
theorem ColAt.zero (s : ByteArray) : ColAt s 0 := by
  unfold ColAt; rw [List.drop_zero]
  cases cut58 s.data.toList <;> rfl
theorem ColAt.more {s : ByteArray} {k : Nat} (h : ColAt s k) (hk : k < s.size) (hx : s[k].toNat ≠ 58) : ColAt s (k + 1) := by
  unfold ColAt at h ⊢
  rw [drop_at4 s k hk] at h
  conv at h => rhs; unfold cut58
  rw [if_neg (show ¬ s[k] = (58 : UInt8) from fun e => hx ((u8_iff _ 58 (by omega)).1 e))] at h
  rw [h, take_more s hk]
  cases cut58 (s.data.toList.drop (k + 1)) with
  | none => rfl
  | some p => simp
theorem ColAt.hit {s : ByteArray} {k : Nat} (h : ColAt s k) (hk : k < s.size) (hx : s[k].toNat = 58) : cut58 s.data.toList = some ((s.extract 0 k).data.toList, (s.extract (k + 1) s.size).data.toList) := by
  unfold ColAt at h
  rw [drop_at4 s k hk] at h
  conv at h => rhs; unfold cut58
  rw [if_pos (show s[k] = (58 : UInt8) from (u8_iff _ 58 (by omega)).2 hx)] at h
  rw [h, ba_take, ba_drop]
  simp
theorem ColAt.fin {s : ByteArray} (h : ColAt s s.size) : cut58 s.data.toList = none := by
  unfold ColAt at h
  rw [List.drop_eq_nil_of_le (by rw [← Lib.size_eq]; exact Nat.le_refl _)] at h
  rw [h]; rfl

def FieldPost (s : List UInt8) (w w' : World) (e : Ending) : Prop :=
  ∃ x y, e = .returned (.tuple #[.agg #[.string x, .string y], .bool (readD s).isSome]) ∧ (∀ f, readD s = some f → f = (x, y)) ∧ Below w.heap.size w w'
theorem readD_none {s : List UInt8} (h : cut58 s = none) : readD s = none := by unfold readD; rw [h]
theorem readD_hit {s : List UInt8} {p : List UInt8 × List UInt8} (h : cut58 s = some p) : readD s = if rightD (fieldOf p) = true then some (fieldOf p) else none := by unfold readD; rw [h]

set_option maxHeartbeats 8000000 in
set_option maxRecDepth 100000 in
theorem rfield_any (s : ByteArray) (w : World) (hs : s.size ≤ 1000000) :
    Calls Tryd.prog 55 #[.string s] w fun e w' => FieldPost s.data.toList w w' e := by
  have hb0 : Ext w (w.alloc (.cells #[.string ⟨#[]⟩, .string ⟨#[]⟩] 43)) := (Below.refl _ _).alloc (Nat.le_refl _) _
  have hw0 : Hid (w.heap.size + 1 ≤ (w.alloc (.cells #[.string ⟨#[]⟩, .string ⟨#[]⟩] 43)).heap.size) := by unfold Hid; simp
  unfold FieldPost
  obtain ⟨D, HD⟩ : ∃ D, Hid (readD s.data.toList = D) := ⟨_, rfl⟩
  rw [HD.out]
  go_enter Tryd.func55, Tryd.ntmps55
  go_wp2
  go_loop [4] (fun v => ∃ k : Nat, v = .int .i64 k ∧ k ≤ s.size ∧ Hid (ColAt s k)) (fun v => s.size - (intOf v).toNat)
  case atStart => exact ⟨0, rfl, Nat.zero_le _, ColAt.zero s⟩
  case round =>
    obtain ⟨k, rfl, hk, HG⟩ := hrel
    by_cases hlt : k < s.size
    · by_cases g : s[k].toNat = 58
      · have HC := Lib.hid (readD_hit (HG.out.hit hlt g))
        have b1 : ((s[k].toNat : Int) == 58) = true := beqi_t (by omega)
        have d0 : (0 : Int) ≤ (k : Int) := by omega
        have d1 : (k : Int) ≤ (s.size : Int) := by omega
        have d3 : (0 : Int) ≤ (k : Int) + 1 := by omega
        have d4 : (k : Int) + 1 ≤ (s.size : Int) := by omega
        have d2 : IntKind.i64.wrap ((k : Int) + 1) = (k : Int) + 1 := IntWalk.i64_in _ (by omega)
        have d5 : ((k : Int) + 1).toNat = k + 1 := by omega
        have hT : ∀ W, Calls Tryd.prog 47 #[.string (s.extract (k + 1) s.size)] W fun e w' => e = .returned (.string ⟨(trimB (s.extract (k + 1) s.size).data.toList).toArray⟩) ∧ Below W.heap.size W w' := fun W => (rtrim_any _ W (by rw [ByteArray.size_extract]; omega)).mono fun e w' ⟨h, hw⟩ => ⟨h, by subst hw; exact Below.refl _ _⟩
        have htz : (⟨(trimB (s.extract (k + 1) s.size).data.toList).toArray⟩ : ByteArray).size ≤ szM := by
          rw [ba_size]; have := trimS_len (s.extract (k + 1) s.size).data.toList [32, 9]; rw [← Lib.size_eq, ByteArray.size_extract] at this; unfold trimB szM; omega
        have hR := fun W => rright_any (s.extract 0 k) ⟨(trimB (s.extract (k + 1) s.size).data.toList).toArray⟩ W (by rw [ByteArray.size_extract]; unfold szM; omega) htz
        have HQ : Hid (fieldOf ((s.extract 0 k).data.toList, (s.extract (k + 1) s.size).data.toList) = (s.extract 0 k, ⟨(trimB (s.extract (k + 1) s.size).data.toList).toArray⟩)) := by
          unfold Hid fieldOf; rw [ba_eta]
        rw [HQ.out, HD.out] at HC
        clear HG HQ g htz HD
        generalize hT0 : (⟨(trimB (s.extract (k + 1) s.size).data.toList).toArray⟩ : ByteArray) = T at *
        clear hT0
        go_wp2_with fail
        refine' wp_region_made_tail (m := 10) (rels := relsOf ((.val _) :: (.val _) :: (.val _) :: (.val _) :: (.val _) :: (.val _) :: (.val _) :: (.val _) :: (.val _) :: (.rel (NewAt w.heap.size #[.string ⟨#[]⟩, .string ⟨#[]⟩])) :: [])) (w := (w.alloc (.cells #[.string ⟨#[]⟩, .string ⟨#[]⟩] 43))) 29 (by kernel_rfl) (by kernel_rfl) (by rfl) (relsOf_stable ?sta) ?wka
        case sta => exact stable_val (stable_val (stable_val (stable_val (stable_val (stable_val (stable_val (stable_val (stable_val (stable_rel NewAt.keep (stable_nil))))))))))
        case wka =>
          refine' walkT_val (by rfl) ?aa0 (fun K hK => ?ba0); (case aa0 => (intro W hW hd; clear hd; go_simp; first | exact ⟨Ext.rf _, rfl⟩ | rfl)); (go_simp; refine hK _ ?_; clear hK K)
          refine' walkT_val (by rfl) ?aa1 (fun K hK => ?ba1); (case aa1 => (intro W hW hd; clear hd; go_simp; first | exact ⟨Ext.rf _, rfl⟩ | rfl)); (go_simp; refine hK _ ?_; clear hK K)
          refine' walkT_val (by rfl) ?aa2 (fun K hK => ?ba2); (case aa2 => (intro W hW hd; clear hd; go_simp; first | exact ⟨Ext.rf _, rfl⟩ | rfl)); (go_simp; refine hK _ ?_; clear hK K)
          refine' walkT_val (by rfl) ?aa3 (fun K hK => ?ba3); (case aa3 => (intro W hW hd; clear hd; go_simp; first | exact ⟨Ext.rf _, rfl⟩ | rfl)); (go_simp; refine hK _ ?_; clear hK K)
          refine' walkT_val (by rfl) ?aa4 (fun K hK => ?ba4); (case aa4 => (intro W hW hd; clear hd; go_simp; first | exact ⟨Ext.rf _, rfl⟩ | rfl)); (go_simp; refine hK _ ?_; clear hK K)
          refine' walkT_val (by rfl) ?aa5 (fun K hK => ?ba5); (case aa5 => (intro W hW hd; clear hd; go_simp; first | exact ⟨Ext.rf _, rfl⟩ | rfl)); (go_simp; refine hK _ ?_; clear hK K)
          refine' walkT_val (by rfl) ?aa6 (fun K hK => ?ba6); (case aa6 => (intro W hW hd; clear hd; go_simp; first | exact ⟨Ext.rf _, rfl⟩ | rfl)); (go_simp; refine hK _ ?_; clear hK K)
          refine' walkT_val (by rfl) ?aa7 (fun K hK => ?ba7); (case aa7 => (intro W hW hd; go_simp; (clear hd; exact makes_val (hT _)))); (go_simp; refine hK _ ?_; clear hK K)
          refine' walkT_val (by rfl) ?aa8 (fun K hK => ?ba8); (case aa8 => (intro W hW hd; clear hd; go_simp; first | exact ⟨Ext.rf _, rfl⟩ | rfl)); (go_simp; refine hK _ ?_; clear hK K)
          refine' walkT_rel (by rfl) ?aa9 (fun va9 K hK => ?ba9); (case aa9 => (intro W hW hd; go_simp; (clear hd; exact ⟨(Below.refl _ _).alloc (Nat.le_refl _) _, NewAt.mk _ _ _ (Nat.le_trans hw0.out hW.size)⟩))); (go_simp; refine hK _ ?_; clear hK K)
          refine walkT_end (fun W hW hfin => ?_)
          have hp := finT_rel hfin 9 5 _ (by decide) (by rfl) (by rfl) (by rfl)
          clear hfin hT
          obtain ⟨b, rfl, hbl, hb1, hbc, hbf⟩ := hp
          have c0 : W.cell? ⟨b, 0, Option.none⟩ = some (.string ⟨#[]⟩) := hbc 0
          have c1 : W.cell? ⟨b, 1, Option.none⟩ = some (.string ⟨#[]⟩) := hbc 1
          obtain ⟨r0, r1, r2, r3, r4, r5⟩ := one_cells hW
          have f0 := hbf 0
          have f1 := hbf 1
          clear hbc hbf
          simp only [List.drop_succ_cons, List.drop_zero]
          have E3 : Ext w ((W.setCell ⟨b, 0, Option.none⟩ (.string (s.extract 0 k))).setCell ⟨b, 1, Option.none⟩ (.string T)) := ((Ext.tr hb0 hW).setCell (p := ⟨b, 0, Option.none⟩) (Nat.le_of_lt hbl) _).setCell (p := ⟨b, 1, Option.none⟩) (Nat.le_of_lt hbl) _
          have hne : w.heap.size ≠ b := by omega
          have e0 : ((W.setCell ⟨b, 0, Option.none⟩ (.string (s.extract 0 k))).setCell ⟨b, 1, Option.none⟩ (.string T)).cell? ⟨b, 0, Option.none⟩ = some (.string (s.extract 0 k)) := by go_simp
          have e1 : ((W.setCell ⟨b, 0, Option.none⟩ (.string (s.extract 0 k))).setCell ⟨b, 1, Option.none⟩ (.string T)).cell? ⟨b, 1, Option.none⟩ = some (.string T) := by go_simp
          have e2 : b < ((W.setCell ⟨b, 0, Option.none⟩ (.string (s.extract 0 k))).setCell ⟨b, 1, Option.none⟩ (.string T)).heap.size := by go_simp
          have e3 : ((W.setCell ⟨b, 0, Option.none⟩ (.string (s.extract 0 k))).setCell ⟨b, 1, Option.none⟩ (.string T)).cell? ⟨w.heap.size, 0, Option.none⟩ = some (.string ⟨#[]⟩) := by go_simp
          have e4 : ((W.setCell ⟨b, 0, Option.none⟩ (.string (s.extract 0 k))).setCell ⟨b, 1, Option.none⟩ (.string T)).cell? ⟨w.heap.size, 1, Option.none⟩ = some (.string ⟨#[]⟩) := by go_simp
          have e5 : w.heap.size < ((W.setCell ⟨b, 0, Option.none⟩ (.string (s.extract 0 k))).setCell ⟨b, 1, Option.none⟩ (.string T)).heap.size := by go_simp
          have e6 : ((W.setCell ⟨b, 0, Option.none⟩ (.string (s.extract 0 k))).setCell ⟨b, 1, Option.none⟩ (.string T)).frozen? ⟨w.heap.size, 0, Option.none⟩ = false := by go_simp
          have e7 : ((W.setCell ⟨b, 0, Option.none⟩ (.string (s.extract 0 k))).setCell ⟨b, 1, Option.none⟩ (.string T)).frozen? ⟨w.heap.size, 1, Option.none⟩ = false := by go_simp
          go_wp2_with fail
          generalize hW3 : (W.setCell ⟨b, 0, Option.none⟩ (.string (s.extract 0 k))).setCell ⟨b, 1, Option.none⟩ (.string T) = W3 at *
          clear hW3 c0 c1 f0 f1 r0 r1 r2 r3 r4 r5 hW hb0 hw0 hb1
          have k0 : ∀ W, Ext W3 W → W.cell? ⟨b, 0, Option.none⟩ = some (.string (s.extract 0 k)) := fun W h => by rw [h.cell (p := ⟨b, 0, Option.none⟩) e2]; exact e0
          have k1 : ∀ W, Ext W3 W → W.cell? ⟨b, 1, Option.none⟩ = some (.string T) := fun W h => by rw [h.cell (p := ⟨b, 1, Option.none⟩) e2]; exact e1
          have HALL : Hid (∀ W, Ext W3 W → W.cell? ⟨b, 0, Option.none⟩ = some (.string (s.extract 0 k)) ∧ W.cell? ⟨b, 1, Option.none⟩ = some (.string T) ∧ W.cell? ⟨w.heap.size, 0, Option.none⟩ = some (.string ⟨#[]⟩) ∧ W.cell? ⟨w.heap.size, 1, Option.none⟩ = some (.string ⟨#[]⟩) ∧ W.frozen? ⟨w.heap.size, 0, Option.none⟩ = false ∧ W.frozen? ⟨w.heap.size, 1, Option.none⟩ = false ∧ w.heap.size < W.heap.size) := by
            unfold Hid
            intro W hW
            obtain ⟨hc, hf⟩ := bcell hW
            exact ⟨by rw [hc _ _ e2]; exact e0, by rw [hc _ _ e2]; exact e1, by rw [hc _ _ e5]; exact e3, by rw [hc _ _ e5]; exact e4, by rw [hf _ _ e5]; exact e6, by rw [hf _ _ e5]; exact e7, Nat.lt_of_lt_of_le e5 hW.size⟩
          clear k0 k1
          cases hq : rightD (s.extract 0 k, T) with
          | false =>
            have HF : Hid (D = none) := by unfold Hid; rw [HC.out, hq, if_neg Bool.false_ne_true]
            rw [hq] at hR
            clear HC hq
            go_region_with (go_at_call 29; with_reducible refine (hR _).mono ?_; rintro e w4 ⟨rfl, hb4⟩; have E34 : Ext W3 w4 := Ext.tr (by first | exact Ext.rf _ | exact (Below.refl _ _).drew | go_grown) hb4; obtain ⟨q0, q1, q3, q4, q6, q7, q5⟩ := HALL.out _ E34; clear hb4)
            all_goals
              have E4 := Ext.tr E3 E34
              have E5 : Ext w ((w4.setCell ⟨w.heap.size, 0, Option.none⟩ (.string (s.extract 0 k))).setCell ⟨w.heap.size, 1, Option.none⟩ (.string T)) := (E4.setCell (p := ⟨w.heap.size, 0, Option.none⟩) (Nat.le_refl _) _).setCell (p := ⟨w.heap.size, 1, Option.none⟩) (Nat.le_refl _) _
              have z0 : ((w4.setCell ⟨w.heap.size, 0, Option.none⟩ (.string (s.extract 0 k))).setCell ⟨w.heap.size, 1, Option.none⟩ (.string T)).cell? ⟨w.heap.size, 0, Option.none⟩ = some (.string (s.extract 0 k)) := by go_simp
              have z1 : ((w4.setCell ⟨w.heap.size, 0, Option.none⟩ (.string (s.extract 0 k))).setCell ⟨w.heap.size, 1, Option.none⟩ (.string T)).cell? ⟨w.heap.size, 1, Option.none⟩ = some (.string T) := by go_simp
              clear e0 e1 e2 e3 e4 e5 e6 e7 hR HALL
              go_wp2_with fail
              exact bodyPost_ret (v := .tuple #[.agg #[.string (s.extract 0 k), .string T], .bool false]) (by simp [results, Tryd.results55, go_sem, z0, z1]) rfl ⟨s.extract 0 k, T, by rw [HF.out]; rfl, fun f h => (by rw [HF.out] at h; cases h), E5⟩
          | true =>
            have HF : Hid (D = some (s.extract 0 k, T)) := by unfold Hid; rw [HC.out, hq, if_pos rfl]
            rw [hq] at hR
            clear HC hq
            go_region_with (go_at_call 29; with_reducible refine (hR _).mono ?_; rintro e w4 ⟨rfl, hb4⟩; have E34 : Ext W3 w4 := Ext.tr (by first | exact Ext.rf _ | exact (Below.refl _ _).drew | go_grown) hb4; obtain ⟨q0, q1, q3, q4, q6, q7, q5⟩ := HALL.out _ E34; clear hb4)
            all_goals
              have E4 := Ext.tr E3 E34
              have E5 : Ext w ((w4.setCell ⟨w.heap.size, 0, Option.none⟩ (.string (s.extract 0 k))).setCell ⟨w.heap.size, 1, Option.none⟩ (.string T)) := (E4.setCell (p := ⟨w.heap.size, 0, Option.none⟩) (Nat.le_refl _) _).setCell (p := ⟨w.heap.size, 1, Option.none⟩) (Nat.le_refl _) _
              have z0 : ((w4.setCell ⟨w.heap.size, 0, Option.none⟩ (.string (s.extract 0 k))).setCell ⟨w.heap.size, 1, Option.none⟩ (.string T)).cell? ⟨w.heap.size, 0, Option.none⟩ = some (.string (s.extract 0 k)) := by go_simp
              have z1 : ((w4.setCell ⟨w.heap.size, 0, Option.none⟩ (.string (s.extract 0 k))).setCell ⟨w.heap.size, 1, Option.none⟩ (.string T)).cell? ⟨w.heap.size, 1, Option.none⟩ = some (.string T) := by go_simp
              clear e0 e1 e2 e3 e4 e5 e6 e7 hR HALL
              go_wp2_with fail
              exact bodyPost_ret (v := .tuple #[.agg #[.string (s.extract 0 k), .string T], .bool true]) (by simp [results, Tryd.results55, go_sem, z0, z1]) rfl ⟨s.extract 0 k, T, by rw [HF.out]; rfl, fun f h => (by rw [HF.out] at h; exact (Option.some.inj h).symm), E5⟩
      · have HK : Hid (ColAt s (k + 1)) := HG.out.more hlt g
        have b1 : ((s[k].toNat : Int) == 58) = false := beqi_f (by omega)
        clear HG HD
        go_wp2_with fail
        go_round
        case rel => exact ⟨k + 1, by go_num, by omega, HK⟩
        case measure => simp [intOf]; omega
    · obtain rfl : k = s.size := by omega
      have HF : Hid (D = none) := by unfold Hid; rw [← HD.out]; exact readD_none HG.out.fin
      clear HG HD
      go_wp2_with fail
      exact bodyPost_ret (v := .tuple #[.agg #[.string ⟨#[]⟩, .string ⟨#[]⟩], .bool false]) (by simp [results, Tryd.results55, go_sem]) rfl ⟨⟨#[]⟩, ⟨#[]⟩, by rw [HF.out]; rfl, by first | (intro f h; rw [HF.out] at h; cases h) | (intro f g h; rw [HF.out] at h; cases h), by go_grown⟩
end Go.Proofs.YtmlbinbhicdljaaDoor
