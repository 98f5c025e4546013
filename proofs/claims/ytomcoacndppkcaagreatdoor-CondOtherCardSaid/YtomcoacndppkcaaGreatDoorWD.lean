/-
  The conditions of fields: Parse of the program.
-/
import Derived.Test.YtomcoacndppkcaaGreatDoorWC
namespace Go.Proofs.YtomcoacndppkcaaGreatDoor
open Go Go.RowKit
open T (Tg TgAt IsTg)

/-- conditions, and what is wrong -/
structure PD where
  l1 : List Tg
  l2 : List Tg
  am : Bool
  an : Bool
  s : Int
  u : Int
  r : Tg
  e : Int
def zeroP (e : Int) : PD := ⟨[], [], false, false, 0, 0, (⟨#[]⟩, false), e⟩
/-- what the conditions of fields are -/
noncomputable def parD (l : List F.Fd) : PD :=
  if (tgD (F.ofD l nmM)).2.2 = 2 ∨ (tgD (F.ofD l nmN)).2.2 = 2 then zeroP 2
  else if (tgD (F.ofD l nmM)).2.2 ≠ 0 ∨ (tgD (F.ofD l nmN)).2.2 ≠ 0 then zeroP 4
  else ⟨(tgD (F.ofD l nmM)).1, (tgD (F.ofD l nmN)).1, (tgD (F.ofD l nmM)).2.1, (tgD (F.ofD l nmN)).2.1, tkD (F.ofD l nmS), tkD (F.ofD l nmU), rgD (F.ofD l nmR), 0⟩
theorem listD_err (s : List UInt8) : (T.listD s).2.2 = 0 ∨ (T.listD s).2.2 = 2 ∨ (T.listD s).2.2 = 4 := by
  unfold T.listD
  split
  · exact Or.inl rfl
  · show (T.endP _).2 = 0 ∨ (T.endP _).2 = 2 ∨ (T.endP _).2 = 4
    cases T.restP true s [] with
    | none => exact Or.inr (Or.inl rfl)
    | some a =>
      simp only [T.endP]
      split
      · exact Or.inr (Or.inl rfl)
      · split
        · exact Or.inr (Or.inr rfl)
        · exact Or.inl rfl
theorem tgD_err (v : List ByteArray) : (tgD v).2.2 = 0 ∨ (tgD v).2.2 = 2 ∨ (tgD v).2.2 = 4 := by
  unfold tgD
  split
  · exact Or.inl rfl
  · split
    · exact Or.inr (Or.inr rfl)
    · exact listD_err _
/-- conditions as a value -/
def PVal (P : PD) (w : World) (v : Value) : Prop := ∃ V1 V2, v = .agg #[V1, V2, .bool P.am, .bool P.an, .int .i64 P.s, .int .i64 P.u, .string P.r.1, .bool P.r.2] ∧ IsTg w V1 P.l1 ∧ IsTg w V2 P.l2
theorem PVal.zero (w : World) (k : Int) : PVal (zeroP k) w (cdV none none 0 0 0 0 false false 0 0 ⟨#[]⟩ false) := ⟨_, _, rfl, IsTg.nil w, IsTg.nil w⟩
theorem PVal.below {P : PD} {w W : World} {v : Value} (h : PVal P w v) (e : Below w.heap.size w W) : PVal P W v := by
  obtain ⟨a, b, h1, h2, h3⟩ := h
  exact ⟨a, b, h1, h2.below e, h3.below e⟩

set_option maxHeartbeats 16000000 in
set_option maxRecDepth 20000 in
theorem parse_any (A : Option Addr) (n c : Nat) (l : List F.Fd) (w : World) (h : FdIn w A n l) (hw : D.LaidD w) :
    Calls Tryz.prog 8 #[.slice A n c] w fun e w' => ∃ v, e = .returned (.tuple #[v, .int .i64 (parD l).e]) ∧ PVal (parD l) w' v ∧ Below w.heap.size w w' := by
  have hM := fun W (e : Below w.heap.size w W) => readTags_any A n c l nmM W (h.below e) (by decide)
  have hN := fun W (e : Below w.heap.size w W) => readTags_any A n c l nmN W (h.below e) (by decide)
  have hS := fun W (e : Below w.heap.size w W) => readTick_any A n c l nmS W (h.below e) (by decide) (hw.below e)
  have hU := fun W (e : Below w.heap.size w W) => readTick_any A n c l nmU W (h.below e) (by decide) (hw.below e)
  have hR := fun W (e : Below w.heap.size w W) => readRange_any A n c l W (h.below e)
  have HP : Hid (parD l = if (tgD (F.ofD l nmM)).2.2 = 2 ∨ (tgD (F.ofD l nmN)).2.2 = 2 then zeroP 2
    else if (tgD (F.ofD l nmM)).2.2 ≠ 0 ∨ (tgD (F.ofD l nmN)).2.2 ≠ 0 then zeroP 4
    else ⟨(tgD (F.ofD l nmM)).1, (tgD (F.ofD l nmN)).1, (tgD (F.ofD l nmM)).2.1, (tgD (F.ofD l nmN)).2.1, tkD (F.ofD l nmS), tkD (F.ofD l nmU), rgD (F.ofD l nmR), 0⟩) := rfl
  have HK1 := Lib.hid (tgD_ok (F.ofD l nmM))
  have HK2 := Lib.hid (tgD_ok (F.ofD l nmN))
  have hE1 := tgD_err (F.ofD l nmM)
  have hE2 := tgD_err (F.ofD l nmN)
  clear h hw
  generalize parD l = P at *
  generalize tkD (F.ofD l nmS) = s at *
  generalize tkD (F.ofD l nmU) = u at *
  generalize rgD (F.ofD l nmR) = r at *
  generalize tgD (F.ofD l nmM) = X at *
  generalize tgD (F.ofD l nmN) = Y at *
  obtain ⟨l1, am, e1⟩ := X
  obtain ⟨l2, an, e2⟩ := Y
  simp only at hE1 hE2 HP HK1 HK2 hM hN
  rcases hE1 with rfl | rfl | rfl
  · rcases hE2 with rfl | rfl | rfl
    · have HQ : Hid (P = ⟨l1, l2, am, an, s, u, r, 0⟩) := by unfold Hid; rw [HP.out]; simp
      clear HP
      go_enter Tryz.func8, Tryz.ntmps8
      go_wp2_with fail
      with_reducible refine (hM _ ((Below.refl _ _).alloc (Nat.le_refl _) _)).mono ?_
      rintro e w1 ⟨v1, rfl, hi1, hb1⟩
      obtain ⟨hc1, -, -, B1⟩ := own_blk hb1
      have hf1 := tg_far hi1 HK1.out hc1
      go_wp2_with fail
      with_reducible refine (hN _ B1).mono ?_
      rintro e w2 ⟨v2, rfl, hi2, hb2⟩
      have C2 := hb1.trans (hb2.mono hb1.size)
      obtain ⟨hc, hfz, hz, B2⟩ := own_blk C2
      have hf2 := tg_far hi2 HK2.out hc
      replace hi1 := hi1.below hb2
      clear hc1 hb1 hb2 B1
      go_wp2_with fail
      with_reducible refine (hS _ B2).mono ?_
      rintro e w3 ⟨rfl, hb3⟩
      go_wp2_with fail
      with_reducible refine (hU _ (Ext.tr B2 hb3)).mono ?_
      rintro e w4 ⟨rfl, hb4⟩
      go_wp2_with fail
      with_reducible refine (hR _ (Ext.tr B2 (Ext.tr hb3 hb4))).mono ?_
      rintro e w5 ⟨rfl, hb5⟩
      have e5 : Ext w2 w5 := Ext.tr (Ext.tr hb3 hb4) hb5
      have C5 := C2.trans (e5.mono C2.size)
      replace hi1 := hi1.below e5
      replace hi2 := hi2.below e5
      clear hc hz B2 hfz
      obtain ⟨hc, hfz, hz, B5⟩ := own_blk C5
      clear hb3 hb4 hb5 e5 C2 C5
      have hi1' := Lib.hid hi1
      have hi2' := Lib.hid hi2
      obtain ⟨A1, n1, c1, rfl, -, -, -⟩ := hi1.split
      obtain ⟨A2, n2, c2, rfl, -, -, -⟩ := hi2.split
      clear hi1 hi2
      obtain ⟨rt, rw⟩ := r
      go_wp2_with fail
      have kk := set8 (x0 := .slice A1 n1 c1) (x1 := .slice A2 n2 c2) (x2 := .bool am) (x3 := .bool an) (x4 := .int .i64 s) (x5 := .int .i64 u) (x6 := .string rt) (x7 := .bool rw) (hc 0) (hc 1) (hc 2) (hc 3) (hc 4) (hc 5) (hc 6) (hc 7) _ rfl
      exact bodyPost_ret (v := .tuple #[cdV A1 A2 n1 c1 n2 c2 am an s u rt rw, .int .i64 0]) (by simp [results, Tryz.results8, go_sem, kk.1, kk.2.1, kk.2.2.1, kk.2.2.2.1, kk.2.2.2.2.1, kk.2.2.2.2.2.1, kk.2.2.2.2.2.2.1, kk.2.2.2.2.2.2.2]) rfl ⟨_, by rw [HQ.out], by rw [HQ.out]; exact ⟨_, _, rfl, tg_set8 hi1'.out hf1, tg_set8 hi2'.out hf2⟩, (((((((B5.setCell (Nat.le_refl _) _).setCell (Nat.le_refl _) _).setCell (Nat.le_refl _) _).setCell (Nat.le_refl _) _).setCell (Nat.le_refl _) _).setCell (Nat.le_refl _) _).setCell (Nat.le_refl _) _).setCell (Nat.le_refl _) _⟩
    · have HQ : Hid (P = zeroP 2) := by unfold Hid; rw [HP.out]; simp
      clear HP
      go_enter Tryz.func8, Tryz.ntmps8
      go_wp2_with fail
      with_reducible refine (hM _ ((Below.refl _ _).alloc (Nat.le_refl _) _)).mono ?_
      rintro e w1 ⟨v1, rfl, hi1, hb1⟩
      obtain ⟨hc1, -, -, B1⟩ := own_blk hb1
      have hf1 := tg_far hi1 HK1.out hc1
      go_wp2_with fail
      with_reducible refine (hN _ B1).mono ?_
      rintro e w2 ⟨v2, rfl, hi2, hb2⟩
      have C2 := hb1.trans (hb2.mono hb1.size)
      obtain ⟨hc, hfz, hz, B2⟩ := own_blk C2
      have hf2 := tg_far hi2 HK2.out hc
      replace hi1 := hi1.below hb2
      clear hc1 hb1 hb2 B1
      go_wp2_with fail
      have kk := set8 (x0 := .slice none 0 0) (x1 := .slice none 0 0) (x2 := .bool false) (x3 := .bool false) (x4 := .int .i64 0) (x5 := .int .i64 0) (x6 := .string ⟨#[]⟩) (x7 := .bool false) (hc 0) (hc 1) (hc 2) (hc 3) (hc 4) (hc 5) (hc 6) (hc 7) _ rfl
      exact bodyPost_ret (v := .tuple #[cdV none none 0 0 0 0 false false 0 0 ⟨#[]⟩ false, .int .i64 2]) (by simp [results, Tryz.results8, go_sem, kk.1, kk.2.1, kk.2.2.1, kk.2.2.2.1, kk.2.2.2.2.1, kk.2.2.2.2.2.1, kk.2.2.2.2.2.2.1, kk.2.2.2.2.2.2.2]) rfl ⟨_, by rw [HQ.out]; rfl, by rw [HQ.out]; exact PVal.zero _ _, (((((((B2.setCell (Nat.le_refl _) _).setCell (Nat.le_refl _) _).setCell (Nat.le_refl _) _).setCell (Nat.le_refl _) _).setCell (Nat.le_refl _) _).setCell (Nat.le_refl _) _).setCell (Nat.le_refl _) _).setCell (Nat.le_refl _) _⟩
    · have HQ : Hid (P = zeroP 4) := by unfold Hid; rw [HP.out]; simp
      clear HP
      go_enter Tryz.func8, Tryz.ntmps8
      go_wp2_with fail
      with_reducible refine (hM _ ((Below.refl _ _).alloc (Nat.le_refl _) _)).mono ?_
      rintro e w1 ⟨v1, rfl, hi1, hb1⟩
      obtain ⟨hc1, -, -, B1⟩ := own_blk hb1
      have hf1 := tg_far hi1 HK1.out hc1
      go_wp2_with fail
      with_reducible refine (hN _ B1).mono ?_
      rintro e w2 ⟨v2, rfl, hi2, hb2⟩
      have C2 := hb1.trans (hb2.mono hb1.size)
      obtain ⟨hc, hfz, hz, B2⟩ := own_blk C2
      have hf2 := tg_far hi2 HK2.out hc
      replace hi1 := hi1.below hb2
      clear hc1 hb1 hb2 B1
      go_wp2_with fail
      have kk := set8 (x0 := .slice none 0 0) (x1 := .slice none 0 0) (x2 := .bool false) (x3 := .bool false) (x4 := .int .i64 0) (x5 := .int .i64 0) (x6 := .string ⟨#[]⟩) (x7 := .bool false) (hc 0) (hc 1) (hc 2) (hc 3) (hc 4) (hc 5) (hc 6) (hc 7) _ rfl
      exact bodyPost_ret (v := .tuple #[cdV none none 0 0 0 0 false false 0 0 ⟨#[]⟩ false, .int .i64 4]) (by simp [results, Tryz.results8, go_sem, kk.1, kk.2.1, kk.2.2.1, kk.2.2.2.1, kk.2.2.2.2.1, kk.2.2.2.2.2.1, kk.2.2.2.2.2.2.1, kk.2.2.2.2.2.2.2]) rfl ⟨_, by rw [HQ.out]; rfl, by rw [HQ.out]; exact PVal.zero _ _, (((((((B2.setCell (Nat.le_refl _) _).setCell (Nat.le_refl _) _).setCell (Nat.le_refl _) _).setCell (Nat.le_refl _) _).setCell (Nat.le_refl _) _).setCell (Nat.le_refl _) _).setCell (Nat.le_refl _) _).setCell (Nat.le_refl _) _⟩
  · rcases hE2 with rfl | rfl | rfl
    · have HQ : Hid (P = zeroP 2) := by unfold Hid; rw [HP.out]; simp
      clear HP
      go_enter Tryz.func8, Tryz.ntmps8
      go_wp2_with fail
      with_reducible refine (hM _ ((Below.refl _ _).alloc (Nat.le_refl _) _)).mono ?_
      rintro e w1 ⟨v1, rfl, hi1, hb1⟩
      obtain ⟨hc1, -, -, B1⟩ := own_blk hb1
      have hf1 := tg_far hi1 HK1.out hc1
      go_wp2_with fail
      with_reducible refine (hN _ B1).mono ?_
      rintro e w2 ⟨v2, rfl, hi2, hb2⟩
      have C2 := hb1.trans (hb2.mono hb1.size)
      obtain ⟨hc, hfz, hz, B2⟩ := own_blk C2
      have hf2 := tg_far hi2 HK2.out hc
      replace hi1 := hi1.below hb2
      clear hc1 hb1 hb2 B1
      go_wp2_with fail
      have kk := set8 (x0 := .slice none 0 0) (x1 := .slice none 0 0) (x2 := .bool false) (x3 := .bool false) (x4 := .int .i64 0) (x5 := .int .i64 0) (x6 := .string ⟨#[]⟩) (x7 := .bool false) (hc 0) (hc 1) (hc 2) (hc 3) (hc 4) (hc 5) (hc 6) (hc 7) _ rfl
      exact bodyPost_ret (v := .tuple #[cdV none none 0 0 0 0 false false 0 0 ⟨#[]⟩ false, .int .i64 2]) (by simp [results, Tryz.results8, go_sem, kk.1, kk.2.1, kk.2.2.1, kk.2.2.2.1, kk.2.2.2.2.1, kk.2.2.2.2.2.1, kk.2.2.2.2.2.2.1, kk.2.2.2.2.2.2.2]) rfl ⟨_, by rw [HQ.out]; rfl, by rw [HQ.out]; exact PVal.zero _ _, (((((((B2.setCell (Nat.le_refl _) _).setCell (Nat.le_refl _) _).setCell (Nat.le_refl _) _).setCell (Nat.le_refl _) _).setCell (Nat.le_refl _) _).setCell (Nat.le_refl _) _).setCell (Nat.le_refl _) _).setCell (Nat.le_refl _) _⟩
    · have HQ : Hid (P = zeroP 2) := by unfold Hid; rw [HP.out]; simp
      clear HP
      go_enter Tryz.func8, Tryz.ntmps8
      go_wp2_with fail
      with_reducible refine (hM _ ((Below.refl _ _).alloc (Nat.le_refl _) _)).mono ?_
      rintro e w1 ⟨v1, rfl, hi1, hb1⟩
      obtain ⟨hc1, -, -, B1⟩ := own_blk hb1
      have hf1 := tg_far hi1 HK1.out hc1
      go_wp2_with fail
      with_reducible refine (hN _ B1).mono ?_
      rintro e w2 ⟨v2, rfl, hi2, hb2⟩
      have C2 := hb1.trans (hb2.mono hb1.size)
      obtain ⟨hc, hfz, hz, B2⟩ := own_blk C2
      have hf2 := tg_far hi2 HK2.out hc
      replace hi1 := hi1.below hb2
      clear hc1 hb1 hb2 B1
      go_wp2_with fail
      have kk := set8 (x0 := .slice none 0 0) (x1 := .slice none 0 0) (x2 := .bool false) (x3 := .bool false) (x4 := .int .i64 0) (x5 := .int .i64 0) (x6 := .string ⟨#[]⟩) (x7 := .bool false) (hc 0) (hc 1) (hc 2) (hc 3) (hc 4) (hc 5) (hc 6) (hc 7) _ rfl
      exact bodyPost_ret (v := .tuple #[cdV none none 0 0 0 0 false false 0 0 ⟨#[]⟩ false, .int .i64 2]) (by simp [results, Tryz.results8, go_sem, kk.1, kk.2.1, kk.2.2.1, kk.2.2.2.1, kk.2.2.2.2.1, kk.2.2.2.2.2.1, kk.2.2.2.2.2.2.1, kk.2.2.2.2.2.2.2]) rfl ⟨_, by rw [HQ.out]; rfl, by rw [HQ.out]; exact PVal.zero _ _, (((((((B2.setCell (Nat.le_refl _) _).setCell (Nat.le_refl _) _).setCell (Nat.le_refl _) _).setCell (Nat.le_refl _) _).setCell (Nat.le_refl _) _).setCell (Nat.le_refl _) _).setCell (Nat.le_refl _) _).setCell (Nat.le_refl _) _⟩
    · have HQ : Hid (P = zeroP 2) := by unfold Hid; rw [HP.out]; simp
      clear HP
      go_enter Tryz.func8, Tryz.ntmps8
      go_wp2_with fail
      with_reducible refine (hM _ ((Below.refl _ _).alloc (Nat.le_refl _) _)).mono ?_
      rintro e w1 ⟨v1, rfl, hi1, hb1⟩
      obtain ⟨hc1, -, -, B1⟩ := own_blk hb1
      have hf1 := tg_far hi1 HK1.out hc1
      go_wp2_with fail
      with_reducible refine (hN _ B1).mono ?_
      rintro e w2 ⟨v2, rfl, hi2, hb2⟩
      have C2 := hb1.trans (hb2.mono hb1.size)
      obtain ⟨hc, hfz, hz, B2⟩ := own_blk C2
      have hf2 := tg_far hi2 HK2.out hc
      replace hi1 := hi1.below hb2
      clear hc1 hb1 hb2 B1
      go_wp2_with fail
      have kk := set8 (x0 := .slice none 0 0) (x1 := .slice none 0 0) (x2 := .bool false) (x3 := .bool false) (x4 := .int .i64 0) (x5 := .int .i64 0) (x6 := .string ⟨#[]⟩) (x7 := .bool false) (hc 0) (hc 1) (hc 2) (hc 3) (hc 4) (hc 5) (hc 6) (hc 7) _ rfl
      exact bodyPost_ret (v := .tuple #[cdV none none 0 0 0 0 false false 0 0 ⟨#[]⟩ false, .int .i64 2]) (by simp [results, Tryz.results8, go_sem, kk.1, kk.2.1, kk.2.2.1, kk.2.2.2.1, kk.2.2.2.2.1, kk.2.2.2.2.2.1, kk.2.2.2.2.2.2.1, kk.2.2.2.2.2.2.2]) rfl ⟨_, by rw [HQ.out]; rfl, by rw [HQ.out]; exact PVal.zero _ _, (((((((B2.setCell (Nat.le_refl _) _).setCell (Nat.le_refl _) _).setCell (Nat.le_refl _) _).setCell (Nat.le_refl _) _).setCell (Nat.le_refl _) _).setCell (Nat.le_refl _) _).setCell (Nat.le_refl _) _).setCell (Nat.le_refl _) _⟩
  · rcases hE2 with rfl | rfl | rfl
    · have HQ : Hid (P = zeroP 4) := by unfold Hid; rw [HP.out]; simp
      clear HP
      go_enter Tryz.func8, Tryz.ntmps8
      go_wp2_with fail
      with_reducible refine (hM _ ((Below.refl _ _).alloc (Nat.le_refl _) _)).mono ?_
      rintro e w1 ⟨v1, rfl, hi1, hb1⟩
      obtain ⟨hc1, -, -, B1⟩ := own_blk hb1
      have hf1 := tg_far hi1 HK1.out hc1
      go_wp2_with fail
      with_reducible refine (hN _ B1).mono ?_
      rintro e w2 ⟨v2, rfl, hi2, hb2⟩
      have C2 := hb1.trans (hb2.mono hb1.size)
      obtain ⟨hc, hfz, hz, B2⟩ := own_blk C2
      have hf2 := tg_far hi2 HK2.out hc
      replace hi1 := hi1.below hb2
      clear hc1 hb1 hb2 B1
      go_wp2_with fail
      have kk := set8 (x0 := .slice none 0 0) (x1 := .slice none 0 0) (x2 := .bool false) (x3 := .bool false) (x4 := .int .i64 0) (x5 := .int .i64 0) (x6 := .string ⟨#[]⟩) (x7 := .bool false) (hc 0) (hc 1) (hc 2) (hc 3) (hc 4) (hc 5) (hc 6) (hc 7) _ rfl
      exact bodyPost_ret (v := .tuple #[cdV none none 0 0 0 0 false false 0 0 ⟨#[]⟩ false, .int .i64 4]) (by simp [results, Tryz.results8, go_sem, kk.1, kk.2.1, kk.2.2.1, kk.2.2.2.1, kk.2.2.2.2.1, kk.2.2.2.2.2.1, kk.2.2.2.2.2.2.1, kk.2.2.2.2.2.2.2]) rfl ⟨_, by rw [HQ.out]; rfl, by rw [HQ.out]; exact PVal.zero _ _, (((((((B2.setCell (Nat.le_refl _) _).setCell (Nat.le_refl _) _).setCell (Nat.le_refl _) _).setCell (Nat.le_refl _) _).setCell (Nat.le_refl _) _).setCell (Nat.le_refl _) _).setCell (Nat.le_refl _) _).setCell (Nat.le_refl _) _⟩
    · have HQ : Hid (P = zeroP 2) := by unfold Hid; rw [HP.out]; simp
      clear HP
      go_enter Tryz.func8, Tryz.ntmps8
      go_wp2_with fail
      with_reducible refine (hM _ ((Below.refl _ _).alloc (Nat.le_refl _) _)).mono ?_
      rintro e w1 ⟨v1, rfl, hi1, hb1⟩
      obtain ⟨hc1, -, -, B1⟩ := own_blk hb1
      have hf1 := tg_far hi1 HK1.out hc1
      go_wp2_with fail
      with_reducible refine (hN _ B1).mono ?_
      rintro e w2 ⟨v2, rfl, hi2, hb2⟩
      have C2 := hb1.trans (hb2.mono hb1.size)
      obtain ⟨hc, hfz, hz, B2⟩ := own_blk C2
      have hf2 := tg_far hi2 HK2.out hc
      replace hi1 := hi1.below hb2
      clear hc1 hb1 hb2 B1
      go_wp2_with fail
      have kk := set8 (x0 := .slice none 0 0) (x1 := .slice none 0 0) (x2 := .bool false) (x3 := .bool false) (x4 := .int .i64 0) (x5 := .int .i64 0) (x6 := .string ⟨#[]⟩) (x7 := .bool false) (hc 0) (hc 1) (hc 2) (hc 3) (hc 4) (hc 5) (hc 6) (hc 7) _ rfl
      exact bodyPost_ret (v := .tuple #[cdV none none 0 0 0 0 false false 0 0 ⟨#[]⟩ false, .int .i64 2]) (by simp [results, Tryz.results8, go_sem, kk.1, kk.2.1, kk.2.2.1, kk.2.2.2.1, kk.2.2.2.2.1, kk.2.2.2.2.2.1, kk.2.2.2.2.2.2.1, kk.2.2.2.2.2.2.2]) rfl ⟨_, by rw [HQ.out]; rfl, by rw [HQ.out]; exact PVal.zero _ _, (((((((B2.setCell (Nat.le_refl _) _).setCell (Nat.le_refl _) _).setCell (Nat.le_refl _) _).setCell (Nat.le_refl _) _).setCell (Nat.le_refl _) _).setCell (Nat.le_refl _) _).setCell (Nat.le_refl _) _).setCell (Nat.le_refl _) _⟩
    · have HQ : Hid (P = zeroP 4) := by unfold Hid; rw [HP.out]; simp
      clear HP
      go_enter Tryz.func8, Tryz.ntmps8
      go_wp2_with fail
      with_reducible refine (hM _ ((Below.refl _ _).alloc (Nat.le_refl _) _)).mono ?_
      rintro e w1 ⟨v1, rfl, hi1, hb1⟩
      obtain ⟨hc1, -, -, B1⟩ := own_blk hb1
      have hf1 := tg_far hi1 HK1.out hc1
      go_wp2_with fail
      with_reducible refine (hN _ B1).mono ?_
      rintro e w2 ⟨v2, rfl, hi2, hb2⟩
      have C2 := hb1.trans (hb2.mono hb1.size)
      obtain ⟨hc, hfz, hz, B2⟩ := own_blk C2
      have hf2 := tg_far hi2 HK2.out hc
      replace hi1 := hi1.below hb2
      clear hc1 hb1 hb2 B1
      go_wp2_with fail
      have kk := set8 (x0 := .slice none 0 0) (x1 := .slice none 0 0) (x2 := .bool false) (x3 := .bool false) (x4 := .int .i64 0) (x5 := .int .i64 0) (x6 := .string ⟨#[]⟩) (x7 := .bool false) (hc 0) (hc 1) (hc 2) (hc 3) (hc 4) (hc 5) (hc 6) (hc 7) _ rfl
      exact bodyPost_ret (v := .tuple #[cdV none none 0 0 0 0 false false 0 0 ⟨#[]⟩ false, .int .i64 4]) (by simp [results, Tryz.results8, go_sem, kk.1, kk.2.1, kk.2.2.1, kk.2.2.2.1, kk.2.2.2.2.1, kk.2.2.2.2.2.1, kk.2.2.2.2.2.2.1, kk.2.2.2.2.2.2.2]) rfl ⟨_, by rw [HQ.out]; rfl, by rw [HQ.out]; exact PVal.zero _ _, (((((((B2.setCell (Nat.le_refl _) _).setCell (Nat.le_refl _) _).setCell (Nat.le_refl _) _).setCell (Nat.le_refl _) _).setCell (Nat.le_refl _) _).setCell (Nat.le_refl _) _).setCell (Nat.le_refl _) _).setCell (Nat.le_refl _) _⟩
end Go.Proofs.YtomcoacndppkcaaGreatDoor
