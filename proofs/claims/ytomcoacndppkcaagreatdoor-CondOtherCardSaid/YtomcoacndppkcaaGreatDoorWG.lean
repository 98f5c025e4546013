/-
  The conditions of fields: Parse of the reference.
-/
import Derived.Test.YtomcoacndppkcaaGreatDoorWF
import Derived.Deep.Cut
import Derived.Deep.CutRange
import Derived.Deep.DeepCutAuto
namespace Go.Proofs.YtomcoacndppkcaaGreatDoor
open Go Go.RowKit
open T (Tg TgAt IsTg)
open F (FdAt OwnX IsTx TxAt)

theorem cells_set {W : World} {b k : Nat} {C : Array Value} {x : Value} (hc : ∀ i, W.cell? ⟨b, i, none⟩ = C[i]?) (hk : k < C.size) : ∀ i, (W.setCell ⟨b, k, none⟩ x).cell? ⟨b, i, none⟩ = (C.setIfInBounds k x)[i]? := by
  intro i
  rw [Array.getElem?_setIfInBounds]
  by_cases h : k = i
  · subst h
    rw [if_pos rfl, if_pos hk]
    exact World.cell?_setCell_same W _ _ ((hc k).trans (Array.getElem?_eq_getElem hk))
  · rw [if_neg h]
    exact (World.cell?_setCell_other W ⟨b, k, none⟩ ⟨b, i, none⟩ _ fun e => h (congrArg Addr.off e)).trans (hc i)
/-- a reading of tags lies ahead of a new block -/
theorem tg_new {w : World} {v : Value} {l : List Tg} (h : IsTg w v l) : FarT w.heap.size v := by
  obtain ⟨A, c, rfl, _, hs⟩ := h
  intro A' n' c' e hn
  injection e with e1 e2 e3
  subst e1; subst e2
  obtain ⟨b, o, e4, hb, -⟩ := hs hn
  obtain rfl := Option.some.inj e4
  exact Nat.ne_of_lt hb

/-- the result's block, and that of the conditions so far -/
structure RpAt (W : World) (b0 bc : Nat) (v1 v2 : Value) (l1 l2 : List Tg) (am an : Bool) (s u : Int) (rt : ByteArray) (rw : Bool) : Prop where
  z : ∀ i, W.cell? ⟨b0, i, none⟩ = (#[.slice none 0 0, .slice none 0 0, .bool false, .bool false, .int .i64 0, .int .i64 0, .string ⟨#[]⟩, .bool false] : Array Value)[i]?
  fz : ∀ i, W.frozen? ⟨b0, i, none⟩ = false
  c : ∀ i, W.cell? ⟨bc, i, none⟩ = (#[v1, v2, .bool am, .bool an, .int .i64 s, .int .i64 u, .string rt, .bool rw] : Array Value)[i]?
  fc : ∀ i, W.frozen? ⟨bc, i, none⟩ = false
  i1 : IsTg W v1 l1
  i2 : IsTg W v2 l2
  f1 : FarT b0 v1
  f2 : FarT b0 v2
  g1 : FarT bc v1
  g2 : FarT bc v2
  lt : b0 < bc
  lc : bc < W.heap.size
theorem RpAt.below {W W' : World} {b0 bc : Nat} {v1 v2 : Value} {l1 l2 : List Tg} {am an : Bool} {s u : Int} {rt : ByteArray} {rw : Bool} (h : RpAt W b0 bc v1 v2 l1 l2 am an s u rt rw) (e : Below W.heap.size W W') : RpAt W' b0 bc v1 v2 l1 l2 am an s u rt rw := by
  have l0 := Nat.lt_trans h.lt h.lc
  exact ⟨fun i => by rw [e.cell (p := ⟨b0, i, none⟩) l0]; exact h.z i, fun i => by rw [e.frozen (p := ⟨b0, i, none⟩) l0]; exact h.fz i, fun i => by rw [e.cell (p := ⟨bc, i, none⟩) h.lc]; exact h.c i, fun i => by rw [e.frozen (p := ⟨bc, i, none⟩) h.lc]; exact h.fc i,
    h.i1.below e, h.i2.below e, h.f1, h.f2, h.g1, h.g2, h.lt, Nat.lt_of_lt_of_le h.lc e.size⟩
theorem RpAt.set {W : World} {b0 bc k : Nat} {v1 v2 x : Value} {l1 l2 : List Tg} {am an : Bool} {s u s' u' : Int} {rt rt' : ByteArray} {rw rw' : Bool} (h : RpAt W b0 bc v1 v2 l1 l2 am an s u rt rw)
    (hx : (#[v1, v2, .bool am, .bool an, .int .i64 s, .int .i64 u, .string rt, .bool rw] : Array Value).setIfInBounds k x = #[v1, v2, .bool am, .bool an, .int .i64 s', .int .i64 u', .string rt', .bool rw']) (hk : k < 8) :
    RpAt (W.setCell ⟨bc, k, none⟩ x) b0 bc v1 v2 l1 l2 am an s' u' rt' rw' := by
  refine ⟨fun i => (World.cell?_setCell_far W ⟨bc, k, none⟩ ⟨b0, i, none⟩ x (Ne.symm (Nat.ne_of_lt h.lt))).trans (h.z i), fun i => by rw [World.frozen?_setCell]; exact h.fz i, fun i => ?_, fun i => by rw [World.frozen?_setCell]; exact h.fc i, tg_setFar h.i1 h.g1, tg_setFar h.i2 h.g2, h.f1, h.f2, h.g1, h.g2, h.lt, by simpa using h.lc⟩
  rw [← hx]; exact cells_set h.c hk i

set_option maxHeartbeats 16000000 in
set_option maxRecDepth 20000 in
theorem rparse8_any (A : Option Addr) (n c : Nat) (l : List F.Fd) (w : World) (h : FdIn w A n l) :
    Calls Tryz.prog 9 #[.slice A n c] w fun e w' => ∃ v, e = .returned (.tuple #[v, .int .i64 (parD l).e]) ∧ PVal (parD l) w' v ∧ Below w.heap.size w w' := by
  have hM := fun W (e : Below w.heap.size w W) => rlist8_any A n c l nmM W (h.below e) (by decide)
  have hN := fun W (e : Below w.heap.size w W) => rlist8_any A n c l nmN W (h.below e) (by decide)
  have hS := fun W (e : Below w.heap.size w W) => rdate8_any A n c l nmS W (h.below e) (by decide)
  have hU := fun W (e : Below w.heap.size w W) => rdate8_any A n c l nmU W (h.below e) (by decide)
  have hO := fun W (e : Below w.heap.size w W) => F.rof_any A n c l nmR W h.n1 (by have := h.m1; omega) h.mx (by decide) (h.below e).s1
  have HZ : Hid (∀ x r, F.ofD l nmR = x :: r → x.size ≤ 50000) := fun x r e => size_of h nmR (by rw [e]; exact List.mem_cons_self)
  have HP : Hid (parD l = if (tgD (F.ofD l nmM)).2.2 = 2 ∨ (tgD (F.ofD l nmN)).2.2 = 2 then zeroP 2
    else if (tgD (F.ofD l nmM)).2.2 ≠ 0 ∨ (tgD (F.ofD l nmN)).2.2 ≠ 0 then zeroP 4
    else ⟨(tgD (F.ofD l nmM)).1, (tgD (F.ofD l nmN)).1, (tgD (F.ofD l nmM)).2.1, (tgD (F.ofD l nmN)).2.1, tkD (F.ofD l nmS), tkD (F.ofD l nmU), rgD (F.ofD l nmR), 0⟩) := rfl
  have HK1 := Lib.hid (tgD_ok (F.ofD l nmM))
  have HK2 := Lib.hid (tgD_ok (F.ofD l nmN))
  have hE1 := tgD_err (F.ofD l nmM)
  have hE2 := tgD_err (F.ofD l nmN)
  clear h
  generalize parD l = P at *
  generalize tkD (F.ofD l nmS) = s at *
  generalize tkD (F.ofD l nmU) = u at *
  generalize tgD (F.ofD l nmM) = X at *
  generalize tgD (F.ofD l nmN) = Y at *
  generalize F.ofD l nmR = vs at *
  obtain ⟨l1, am, e1⟩ := X
  obtain ⟨l2, an, e2⟩ := Y
  simp only at hE1 hE2 HP HK1 HK2 hM hN
  rcases hE1 with rfl | rfl | rfl
  · rcases hE2 with rfl | rfl | rfl
    · have HQ : Hid (P = ⟨l1, l2, am, an, s, u, rgD vs, 0⟩) := by unfold Hid; rw [HP.out]; simp
      clear HP
      go_enter Tryz.func9, Tryz.ntmps9
      go_wp2_with fail
      with_reducible refine (hM _ ((Below.refl _ _).alloc (Nat.le_refl _) _)).mono ?_
      rintro e w1 ⟨v1, rfl, hi1, hb1⟩
      obtain ⟨hc1, -, -, B1⟩ := own_blk hb1
      have hf1 := tg_far hi1 HK1.out hc1
      go_wp2_with fail
      with_reducible refine (hN _ B1).mono ?_
      rintro e w2 ⟨v2, rfl, hi2, hb2⟩
      have C2 := hb1.trans (hb2.mono hb1.size)
      obtain ⟨hc, hfz, hz, B2⟩ := own_blk C2
      have hf2 := tg_far hi2 HK2.out hc
      replace hi1 := hi1.below hb2
      clear hc1 hb1 hb2 B1
      have h1 := Lib.hid hi1
      have h2 := Lib.hid hi2
      obtain ⟨A1, n1, c1, rfl, -, -, -⟩ := hi1.split
      obtain ⟨A2, n2, c2, rfl, -, -, -⟩ := hi2.split
      have R2 : RpAt (w2.alloc (.cells #[.slice A1 n1 c1, .slice A2 n2 c2, .bool am, .bool an, .int .i64 0, .int .i64 0, .string ⟨#[]⟩, .bool false] 29)) w.heap.size w2.heap.size (.slice A1 n1 c1) (.slice A2 n2 c2) l1 l2 am an 0 0 ⟨#[]⟩ false := by
        have e2 : Ext w2 (w2.alloc (.cells #[.slice A1 n1 c1, .slice A2 n2 c2, .bool am, .bool an, .int .i64 0, .int .i64 0, .string ⟨#[]⟩, .bool false] 29)) := (Below.refl _ _).alloc (Nat.le_refl _) _
        exact ⟨fun i => by rw [e2.cell (p := ⟨w.heap.size, i, none⟩) hz]; exact hc i, fun i => by rw [e2.frozen (p := ⟨w.heap.size, i, none⟩) hz]; exact hfz i, fun i => by simp, fun i => by simp, h1.out.below e2, h2.out.below e2, hf1, hf2, tg_new h1.out, tg_new h2.out, hz, by simp⟩
      clear hi1 hi2 h1 h2 hf1 hf2 hc hfz C2
      have B2' : Below w.heap.size w (w2.alloc (.cells #[.slice A1 n1 c1, .slice A2 n2 c2, .bool am, .bool an, .int .i64 0, .int .i64 0, .string ⟨#[]⟩, .bool false] 29)) := B2.alloc B2.size _
      go_wp2_with fail
      with_reducible refine (hU _ B2').mono ?_
      rintro e w3 ⟨rfl, hb3⟩
      go_wp2_with fail
      with_reducible refine (hS _ (Ext.tr B2' hb3)).mono ?_
      rintro e w4 ⟨rfl, hb4⟩
      have e4 := Ext.tr hb3 hb4
      have R4 := R2.below e4
      have B4 := Ext.tr B2' e4
      have hzz := Nat.le_of_lt hz
      generalize w2.heap.size = bc at *
      clear e4 hb3 hb4 R2 B2' B2 hz
      have hc := R4.c
      have hfc := R4.fc
      have lc := R4.lc
      go_wp2_with fail
      have R4' := (R4.set (k := 5) (x := .int .i64 u) (s' := 0) (u' := u) (rt' := ⟨#[]⟩) (rw' := false) rfl (by omega)).set (k := 4) (x := .int .i64 s) (s' := s) (u' := u) (rt' := ⟨#[]⟩) (rw' := false) rfl (by omega)
      have B4' : Below w.heap.size w ((w4.setCell ⟨bc, 5, none⟩ (.int .i64 u)).setCell ⟨bc, 4, none⟩ (.int .i64 s)) := (B4.setCell hzz _).setCell hzz _
      with_reducible refine (hO _ B4').mono ?_
      rintro e w5 ⟨v5, rfl, ho5, hb5⟩
      have R5 := R4'.below hb5
      have B5 := Ext.tr B4' hb5
      clear R4 R4' B4 B4' hc hfc lc hb5
      obtain ⟨A5, n5, c5, rfl, HN5, -, hs5⟩ := (IsTx.own ho5).split
      clear ho5
      go_upto_if 55 with fail
      go_cut [] (fun wx => RpAt wx w.heap.size bc (.slice A1 n1 c1) (.slice A2 n2 c2) l1 l2 am an s u (rgD vs).1 (rgD vs).2 ∧ Ext w wx)
      case first =>
        cases vs with
        | nil =>
          obtain rfl : n5 = 0 := by have := HN5.out; simpa using this.symm
          clear hs5
          go_wp2_with fail
          go_meet
          exact ⟨R5, B5⟩
        | cons x r =>
          have hp : 0 < n5 := by have := HN5.out; simp at this; omega
          obtain ⟨b, o5, rfl, hb, hcc⟩ := hs5 (by simp)
          have c0 : w5.cell? ⟨b, o5, none⟩ = some (.string x) := by have := hcc 0 (by simp); rw [Nat.add_zero] at this; exact this
          have hy := HZ.out x r rfl
          have hPx := fun W => T.rparse_any x W (by omega)
          clear hcc HN5 HZ
          have HF : Hid (rgD (x :: r) = if (T.readL (T.trimB x.data.toList)).2 then (T.readL (T.trimB x.data.toList)).1 else (⟨#[]⟩, true)) := rfl
          unfold T.parseV at hPx
          generalize T.readL (T.trimB x.data.toList) = X at *
          obtain ⟨⟨tx, tw⟩, ok⟩ := X
          cases ok with
          | true =>
            have HR : Hid (rgD (x :: r) = (tx, tw)) := by unfold Hid; rw [HF.out]; rfl
            rw [show T.errD true = 0 from rfl] at hPx
            simp only at hPx
            clear HF
            go_wp2_with fail
            with_reducible refine (hPx _).mono ?_
            rintro e w6 ⟨rfl, hb6⟩
            have e6 : Ext w5 (w6.alloc (.cells #[.string tx, .bool tw] 27)) := Ext.tr hb6 ((Below.refl _ _).alloc (Nat.le_refl _) _)
            have R6 := R5.below hb6
            have B6 := Ext.tr B5 hb6
            have hc := R6.c
            have hfc := R6.fc
            have lc := R6.lc
            go_wp2_with fail
            go_meet
            rw [HR.out]
            exact ⟨((R6.set (k := 6) (x := .string tx) (s' := s) (u' := u) (rt' := tx) (rw' := false) rfl (by omega)).set (k := 7) (x := .bool tw) (s' := s) (u' := u) (rt' := tx) (rw' := tw) rfl (by omega)).below ((Below.refl _ _).alloc (Nat.le_refl _) _), Below.alloc ((B6.setCell hzz _).setCell hzz _) (by simpa using B6.size) _⟩
          | false =>
            have HR : Hid (rgD (x :: r) = (⟨#[]⟩, true)) := by unfold Hid; rw [HF.out]; rfl
            rw [show T.errD false = 2 from rfl] at hPx
            simp only at hPx
            clear HF
            go_wp2_with fail
            with_reducible refine (hPx _).mono ?_
            rintro e w6 ⟨rfl, hb6⟩
            have R6 := R5.below hb6
            have B6 := Ext.tr B5 hb6
            have hc := R6.c
            have hfc := R6.fc
            have lc := R6.lc
            go_wp2_with fail
            go_meet
            rw [HR.out]
            exact ⟨((R6.set (k := 6) (x := .string ⟨#[]⟩) (s' := s) (u' := u) (rt' := ⟨#[]⟩) (rw' := false) rfl (by omega)).set (k := 7) (x := .bool true) (s' := s) (u' := u) (rt' := ⟨#[]⟩) (rw' := true) rfl (by omega)).below ((Below.refl _ _).alloc (Nat.le_refl _) _), Below.alloc ((B6.setCell hzz _).setCell hzz _) (by simpa using B6.size) _⟩
      case rest =>
        obtain ⟨R7, C7⟩ := hcut
        generalize hwc : wc = w7 at *
        clear hwc R5 B5 hs5 HN5
        obtain ⟨rt, rw, hr⟩ : ∃ rt rw, rgD vs = (rt, rw) := ⟨_, _, rfl⟩
        rw [hr] at R7 HQ
        clear hr
        have hc := R7.z
        have hfz := R7.fz
        have hcc := R7.c
        have lc := R7.lc
        have l0 := Nat.lt_trans R7.lt lc
        go_wp2_with fail
        have kk := set8 (x0 := .slice A1 n1 c1) (x1 := .slice A2 n2 c2) (x2 := .bool am) (x3 := .bool an) (x4 := .int .i64 s) (x5 := .int .i64 u) (x6 := .string rt) (x7 := .bool rw) (hc 0) (hc 1) (hc 2) (hc 3) (hc 4) (hc 5) (hc 6) (hc 7) _ rfl
        exact bodyPost_ret (v := .tuple #[cdV A1 A2 n1 c1 n2 c2 am an s u rt rw, .int .i64 0]) (by simp [results, Tryz.results9, go_sem, kk.1, kk.2.1, kk.2.2.1, kk.2.2.2.1, kk.2.2.2.2.1, kk.2.2.2.2.2.1, kk.2.2.2.2.2.2.1, kk.2.2.2.2.2.2.2]) rfl ⟨_, by rw [HQ.out], by rw [HQ.out]; exact ⟨_, _, rfl, tg_set8 R7.i1 R7.f1, tg_set8 R7.i2 R7.f2⟩, (((((((((C7.setCell (Nat.le_refl _) _).setCell (Nat.le_refl _) _).setCell (Nat.le_refl _) _).setCell (Nat.le_refl _) _).setCell (Nat.le_refl _) _).setCell (Nat.le_refl _) _).setCell (Nat.le_refl _) _).setCell (Nat.le_refl _) _))⟩
    · have HQ : Hid (P = zeroP 2) := by unfold Hid; rw [HP.out]; simp
      clear HP
      go_enter Tryz.func9, Tryz.ntmps9
      go_wp2_with fail
      with_reducible refine (hM _ ((Below.refl _ _).alloc (Nat.le_refl _) _)).mono ?_
      rintro e w1 ⟨v1, rfl, hi1, hb1⟩
      obtain ⟨hc1, -, -, B1⟩ := own_blk hb1
      have hf1 := tg_far hi1 HK1.out hc1
      go_wp2_with fail
      with_reducible refine (hN _ B1).mono ?_
      rintro e w2 ⟨v2, rfl, hi2, hb2⟩
      have C2 := hb1.trans (hb2.mono hb1.size)
      obtain ⟨hc, hfz, hz, B2⟩ := own_blk C2
      have hf2 := tg_far hi2 HK2.out hc
      replace hi1 := hi1.below hb2
      clear hc1 hb1 hb2 B1
      go_wp2_with fail
      have kk := set8 (x0 := .slice none 0 0) (x1 := .slice none 0 0) (x2 := .bool false) (x3 := .bool false) (x4 := .int .i64 0) (x5 := .int .i64 0) (x6 := .string ⟨#[]⟩) (x7 := .bool false) (hc 0) (hc 1) (hc 2) (hc 3) (hc 4) (hc 5) (hc 6) (hc 7) _ rfl
      exact bodyPost_ret (v := .tuple #[cdV none none 0 0 0 0 false false 0 0 ⟨#[]⟩ false, .int .i64 2]) (by simp [results, Tryz.results9, go_sem, kk.1, kk.2.1, kk.2.2.1, kk.2.2.2.1, kk.2.2.2.2.1, kk.2.2.2.2.2.1, kk.2.2.2.2.2.2.1, kk.2.2.2.2.2.2.2]) rfl ⟨_, by rw [HQ.out]; rfl, by rw [HQ.out]; exact PVal.zero _ _, (((((((((B2.setCell (Nat.le_refl _) _).setCell (Nat.le_refl _) _).setCell (Nat.le_refl _) _).setCell (Nat.le_refl _) _).setCell (Nat.le_refl _) _).setCell (Nat.le_refl _) _).setCell (Nat.le_refl _) _).setCell (Nat.le_refl _) _))⟩
    · have HQ : Hid (P = zeroP 4) := by unfold Hid; rw [HP.out]; simp
      clear HP
      go_enter Tryz.func9, Tryz.ntmps9
      go_wp2_with fail
      with_reducible refine (hM _ ((Below.refl _ _).alloc (Nat.le_refl _) _)).mono ?_
      rintro e w1 ⟨v1, rfl, hi1, hb1⟩
      obtain ⟨hc1, -, -, B1⟩ := own_blk hb1
      have hf1 := tg_far hi1 HK1.out hc1
      go_wp2_with fail
      with_reducible refine (hN _ B1).mono ?_
      rintro e w2 ⟨v2, rfl, hi2, hb2⟩
      have C2 := hb1.trans (hb2.mono hb1.size)
      obtain ⟨hc, hfz, hz, B2⟩ := own_blk C2
      have hf2 := tg_far hi2 HK2.out hc
      replace hi1 := hi1.below hb2
      clear hc1 hb1 hb2 B1
      go_wp2_with fail
      have kk := set8 (x0 := .slice none 0 0) (x1 := .slice none 0 0) (x2 := .bool false) (x3 := .bool false) (x4 := .int .i64 0) (x5 := .int .i64 0) (x6 := .string ⟨#[]⟩) (x7 := .bool false) (hc 0) (hc 1) (hc 2) (hc 3) (hc 4) (hc 5) (hc 6) (hc 7) _ rfl
      exact bodyPost_ret (v := .tuple #[cdV none none 0 0 0 0 false false 0 0 ⟨#[]⟩ false, .int .i64 4]) (by simp [results, Tryz.results9, go_sem, kk.1, kk.2.1, kk.2.2.1, kk.2.2.2.1, kk.2.2.2.2.1, kk.2.2.2.2.2.1, kk.2.2.2.2.2.2.1, kk.2.2.2.2.2.2.2]) rfl ⟨_, by rw [HQ.out]; rfl, by rw [HQ.out]; exact PVal.zero _ _, (((((((((B2.setCell (Nat.le_refl _) _).setCell (Nat.le_refl _) _).setCell (Nat.le_refl _) _).setCell (Nat.le_refl _) _).setCell (Nat.le_refl _) _).setCell (Nat.le_refl _) _).setCell (Nat.le_refl _) _).setCell (Nat.le_refl _) _))⟩
  · rcases hE2 with rfl | rfl | rfl
    · have HQ : Hid (P = zeroP 2) := by unfold Hid; rw [HP.out]; simp
      clear HP
      go_enter Tryz.func9, Tryz.ntmps9
      go_wp2_with fail
      with_reducible refine (hM _ ((Below.refl _ _).alloc (Nat.le_refl _) _)).mono ?_
      rintro e w1 ⟨v1, rfl, hi1, hb1⟩
      obtain ⟨hc1, -, -, B1⟩ := own_blk hb1
      have hf1 := tg_far hi1 HK1.out hc1
      go_wp2_with fail
      with_reducible refine (hN _ B1).mono ?_
      rintro e w2 ⟨v2, rfl, hi2, hb2⟩
      have C2 := hb1.trans (hb2.mono hb1.size)
      obtain ⟨hc, hfz, hz, B2⟩ := own_blk C2
      have hf2 := tg_far hi2 HK2.out hc
      replace hi1 := hi1.below hb2
      clear hc1 hb1 hb2 B1
      go_wp2_with fail
      have kk := set8 (x0 := .slice none 0 0) (x1 := .slice none 0 0) (x2 := .bool false) (x3 := .bool false) (x4 := .int .i64 0) (x5 := .int .i64 0) (x6 := .string ⟨#[]⟩) (x7 := .bool false) (hc 0) (hc 1) (hc 2) (hc 3) (hc 4) (hc 5) (hc 6) (hc 7) _ rfl
      exact bodyPost_ret (v := .tuple #[cdV none none 0 0 0 0 false false 0 0 ⟨#[]⟩ false, .int .i64 2]) (by simp [results, Tryz.results9, go_sem, kk.1, kk.2.1, kk.2.2.1, kk.2.2.2.1, kk.2.2.2.2.1, kk.2.2.2.2.2.1, kk.2.2.2.2.2.2.1, kk.2.2.2.2.2.2.2]) rfl ⟨_, by rw [HQ.out]; rfl, by rw [HQ.out]; exact PVal.zero _ _, (((((((((B2.setCell (Nat.le_refl _) _).setCell (Nat.le_refl _) _).setCell (Nat.le_refl _) _).setCell (Nat.le_refl _) _).setCell (Nat.le_refl _) _).setCell (Nat.le_refl _) _).setCell (Nat.le_refl _) _).setCell (Nat.le_refl _) _))⟩
    · have HQ : Hid (P = zeroP 2) := by unfold Hid; rw [HP.out]; simp
      clear HP
      go_enter Tryz.func9, Tryz.ntmps9
      go_wp2_with fail
      with_reducible refine (hM _ ((Below.refl _ _).alloc (Nat.le_refl _) _)).mono ?_
      rintro e w1 ⟨v1, rfl, hi1, hb1⟩
      obtain ⟨hc1, -, -, B1⟩ := own_blk hb1
      have hf1 := tg_far hi1 HK1.out hc1
      go_wp2_with fail
      with_reducible refine (hN _ B1).mono ?_
      rintro e w2 ⟨v2, rfl, hi2, hb2⟩
      have C2 := hb1.trans (hb2.mono hb1.size)
      obtain ⟨hc, hfz, hz, B2⟩ := own_blk C2
      have hf2 := tg_far hi2 HK2.out hc
      replace hi1 := hi1.below hb2
      clear hc1 hb1 hb2 B1
      go_wp2_with fail
      have kk := set8 (x0 := .slice none 0 0) (x1 := .slice none 0 0) (x2 := .bool false) (x3 := .bool false) (x4 := .int .i64 0) (x5 := .int .i64 0) (x6 := .string ⟨#[]⟩) (x7 := .bool false) (hc 0) (hc 1) (hc 2) (hc 3) (hc 4) (hc 5) (hc 6) (hc 7) _ rfl
      exact bodyPost_ret (v := .tuple #[cdV none none 0 0 0 0 false false 0 0 ⟨#[]⟩ false, .int .i64 2]) (by simp [results, Tryz.results9, go_sem, kk.1, kk.2.1, kk.2.2.1, kk.2.2.2.1, kk.2.2.2.2.1, kk.2.2.2.2.2.1, kk.2.2.2.2.2.2.1, kk.2.2.2.2.2.2.2]) rfl ⟨_, by rw [HQ.out]; rfl, by rw [HQ.out]; exact PVal.zero _ _, (((((((((B2.setCell (Nat.le_refl _) _).setCell (Nat.le_refl _) _).setCell (Nat.le_refl _) _).setCell (Nat.le_refl _) _).setCell (Nat.le_refl _) _).setCell (Nat.le_refl _) _).setCell (Nat.le_refl _) _).setCell (Nat.le_refl _) _))⟩
    · have HQ : Hid (P = zeroP 2) := by unfold Hid; rw [HP.out]; simp
      clear HP
      go_enter Tryz.func9, Tryz.ntmps9
      go_wp2_with fail
      with_reducible refine (hM _ ((Below.refl _ _).alloc (Nat.le_refl _) _)).mono ?_
      rintro e w1 ⟨v1, rfl, hi1, hb1⟩
      obtain ⟨hc1, -, -, B1⟩ := own_blk hb1
      have hf1 := tg_far hi1 HK1.out hc1
      go_wp2_with fail
      with_reducible refine (hN _ B1).mono ?_
      rintro e w2 ⟨v2, rfl, hi2, hb2⟩
      have C2 := hb1.trans (hb2.mono hb1.size)
      obtain ⟨hc, hfz, hz, B2⟩ := own_blk C2
      have hf2 := tg_far hi2 HK2.out hc
      replace hi1 := hi1.below hb2
      clear hc1 hb1 hb2 B1
      go_wp2_with fail
      have kk := set8 (x0 := .slice none 0 0) (x1 := .slice none 0 0) (x2 := .bool false) (x3 := .bool false) (x4 := .int .i64 0) (x5 := .int .i64 0) (x6 := .string ⟨#[]⟩) (x7 := .bool false) (hc 0) (hc 1) (hc 2) (hc 3) (hc 4) (hc 5) (hc 6) (hc 7) _ rfl
      exact bodyPost_ret (v := .tuple #[cdV none none 0 0 0 0 false false 0 0 ⟨#[]⟩ false, .int .i64 2]) (by simp [results, Tryz.results9, go_sem, kk.1, kk.2.1, kk.2.2.1, kk.2.2.2.1, kk.2.2.2.2.1, kk.2.2.2.2.2.1, kk.2.2.2.2.2.2.1, kk.2.2.2.2.2.2.2]) rfl ⟨_, by rw [HQ.out]; rfl, by rw [HQ.out]; exact PVal.zero _ _, (((((((((B2.setCell (Nat.le_refl _) _).setCell (Nat.le_refl _) _).setCell (Nat.le_refl _) _).setCell (Nat.le_refl _) _).setCell (Nat.le_refl _) _).setCell (Nat.le_refl _) _).setCell (Nat.le_refl _) _).setCell (Nat.le_refl _) _))⟩
  · rcases hE2 with rfl | rfl | rfl
    · have HQ : Hid (P = zeroP 4) := by unfold Hid; rw [HP.out]; simp
      clear HP
      go_enter Tryz.func9, Tryz.ntmps9
      go_wp2_with fail
      with_reducible refine (hM _ ((Below.refl _ _).alloc (Nat.le_refl _) _)).mono ?_
      rintro e w1 ⟨v1, rfl, hi1, hb1⟩
      obtain ⟨hc1, -, -, B1⟩ := own_blk hb1
      have hf1 := tg_far hi1 HK1.out hc1
      go_wp2_with fail
      with_reducible refine (hN _ B1).mono ?_
      rintro e w2 ⟨v2, rfl, hi2, hb2⟩
      have C2 := hb1.trans (hb2.mono hb1.size)
      obtain ⟨hc, hfz, hz, B2⟩ := own_blk C2
      have hf2 := tg_far hi2 HK2.out hc
      replace hi1 := hi1.below hb2
      clear hc1 hb1 hb2 B1
      go_wp2_with fail
      have kk := set8 (x0 := .slice none 0 0) (x1 := .slice none 0 0) (x2 := .bool false) (x3 := .bool false) (x4 := .int .i64 0) (x5 := .int .i64 0) (x6 := .string ⟨#[]⟩) (x7 := .bool false) (hc 0) (hc 1) (hc 2) (hc 3) (hc 4) (hc 5) (hc 6) (hc 7) _ rfl
      exact bodyPost_ret (v := .tuple #[cdV none none 0 0 0 0 false false 0 0 ⟨#[]⟩ false, .int .i64 4]) (by simp [results, Tryz.results9, go_sem, kk.1, kk.2.1, kk.2.2.1, kk.2.2.2.1, kk.2.2.2.2.1, kk.2.2.2.2.2.1, kk.2.2.2.2.2.2.1, kk.2.2.2.2.2.2.2]) rfl ⟨_, by rw [HQ.out]; rfl, by rw [HQ.out]; exact PVal.zero _ _, (((((((((B2.setCell (Nat.le_refl _) _).setCell (Nat.le_refl _) _).setCell (Nat.le_refl _) _).setCell (Nat.le_refl _) _).setCell (Nat.le_refl _) _).setCell (Nat.le_refl _) _).setCell (Nat.le_refl _) _).setCell (Nat.le_refl _) _))⟩
    · have HQ : Hid (P = zeroP 2) := by unfold Hid; rw [HP.out]; simp
      clear HP
      go_enter Tryz.func9, Tryz.ntmps9
      go_wp2_with fail
      with_reducible refine (hM _ ((Below.refl _ _).alloc (Nat.le_refl _) _)).mono ?_
      rintro e w1 ⟨v1, rfl, hi1, hb1⟩
      obtain ⟨hc1, -, -, B1⟩ := own_blk hb1
      have hf1 := tg_far hi1 HK1.out hc1
      go_wp2_with fail
      with_reducible refine (hN _ B1).mono ?_
      rintro e w2 ⟨v2, rfl, hi2, hb2⟩
      have C2 := hb1.trans (hb2.mono hb1.size)
      obtain ⟨hc, hfz, hz, B2⟩ := own_blk C2
      have hf2 := tg_far hi2 HK2.out hc
      replace hi1 := hi1.below hb2
      clear hc1 hb1 hb2 B1
      go_wp2_with fail
      have kk := set8 (x0 := .slice none 0 0) (x1 := .slice none 0 0) (x2 := .bool false) (x3 := .bool false) (x4 := .int .i64 0) (x5 := .int .i64 0) (x6 := .string ⟨#[]⟩) (x7 := .bool false) (hc 0) (hc 1) (hc 2) (hc 3) (hc 4) (hc 5) (hc 6) (hc 7) _ rfl
      exact bodyPost_ret (v := .tuple #[cdV none none 0 0 0 0 false false 0 0 ⟨#[]⟩ false, .int .i64 2]) (by simp [results, Tryz.results9, go_sem, kk.1, kk.2.1, kk.2.2.1, kk.2.2.2.1, kk.2.2.2.2.1, kk.2.2.2.2.2.1, kk.2.2.2.2.2.2.1, kk.2.2.2.2.2.2.2]) rfl ⟨_, by rw [HQ.out]; rfl, by rw [HQ.out]; exact PVal.zero _ _, (((((((((B2.setCell (Nat.le_refl _) _).setCell (Nat.le_refl _) _).setCell (Nat.le_refl _) _).setCell (Nat.le_refl _) _).setCell (Nat.le_refl _) _).setCell (Nat.le_refl _) _).setCell (Nat.le_refl _) _).setCell (Nat.le_refl _) _))⟩
    · have HQ : Hid (P = zeroP 4) := by unfold Hid; rw [HP.out]; simp
      clear HP
      go_enter Tryz.func9, Tryz.ntmps9
      go_wp2_with fail
      with_reducible refine (hM _ ((Below.refl _ _).alloc (Nat.le_refl _) _)).mono ?_
      rintro e w1 ⟨v1, rfl, hi1, hb1⟩
      obtain ⟨hc1, -, -, B1⟩ := own_blk hb1
      have hf1 := tg_far hi1 HK1.out hc1
      go_wp2_with fail
      with_reducible refine (hN _ B1).mono ?_
      rintro e w2 ⟨v2, rfl, hi2, hb2⟩
      have C2 := hb1.trans (hb2.mono hb1.size)
      obtain ⟨hc, hfz, hz, B2⟩ := own_blk C2
      have hf2 := tg_far hi2 HK2.out hc
      replace hi1 := hi1.below hb2
      clear hc1 hb1 hb2 B1
      go_wp2_with fail
      have kk := set8 (x0 := .slice none 0 0) (x1 := .slice none 0 0) (x2 := .bool false) (x3 := .bool false) (x4 := .int .i64 0) (x5 := .int .i64 0) (x6 := .string ⟨#[]⟩) (x7 := .bool false) (hc 0) (hc 1) (hc 2) (hc 3) (hc 4) (hc 5) (hc 6) (hc 7) _ rfl
      exact bodyPost_ret (v := .tuple #[cdV none none 0 0 0 0 false false 0 0 ⟨#[]⟩ false, .int .i64 4]) (by simp [results, Tryz.results9, go_sem, kk.1, kk.2.1, kk.2.2.1, kk.2.2.2.1, kk.2.2.2.2.1, kk.2.2.2.2.2.1, kk.2.2.2.2.2.2.1, kk.2.2.2.2.2.2.2]) rfl ⟨_, by rw [HQ.out]; rfl, by rw [HQ.out]; exact PVal.zero _ _, (((((((((B2.setCell (Nat.le_refl _) _).setCell (Nat.le_refl _) _).setCell (Nat.le_refl _) _).setCell (Nat.le_refl _) _).setCell (Nat.le_refl _) _).setCell (Nat.le_refl _) _).setCell (Nat.le_refl _) _).setCell (Nat.le_refl _) _))⟩
end Go.Proofs.YtomcoacndppkcaaGreatDoor
