/-
  The conditions of fields, by the program: the tag of a Range, Parse.
-/
import Derived.Test.YtomcoacndppkcaaGreatDoorWA
namespace Go.Proofs.YtomcoacndppkcaaGreatDoor
open Go Go.RowKit
open T (Tg TgAt IsTg)
open F (FdAt OwnX IsTx TxAt)

/-- a block of one's own, and what came behind -/
theorem own_blk {w W : World} {C : Array Value} {ty : TypeId} (h : Below (w.alloc (.cells C ty)).heap.size (w.alloc (.cells C ty)) W) :
    (∀ i, W.cell? ⟨w.heap.size, i, none⟩ = C[i]?) ∧ (∀ i, W.frozen? ⟨w.heap.size, i, none⟩ = false) ∧ w.heap.size < W.heap.size ∧ Below w.heap.size w W := by
  obtain ⟨hc, hz⟩ := two_cells rfl h
  refine ⟨hc, fun i => ?_, hz, Ext.tr ((Below.refl _ _).alloc (Nat.le_refl _) _) h⟩
  rw [h.frozen (p := ⟨w.heap.size, i, none⟩) (by simp only [World.size_alloc]; omega)]; simp

theorem two_set {W : World} {b : Nat} {u v x y : Value} {o : Obj} (h0 : W.cell? ⟨b, 0, none⟩ = some u) (h1 : W.cell? ⟨b, 1, none⟩ = some v) (hz : b < W.heap.size) :
    (((W.setCell ⟨b, 0, none⟩ x).setCell ⟨b, 1, none⟩ y).alloc o).cell? ⟨b, 0, none⟩ = some x ∧ (((W.setCell ⟨b, 0, none⟩ x).setCell ⟨b, 1, none⟩ y).alloc o).cell? ⟨b, 1, none⟩ = some y := by
  have hz' : b ≠ W.heap.size := Nat.ne_of_lt hz
  constructor
  · go_simp
  · go_simp
theorem ret_tg {a : ByteArray} {b : Bool} {x : Tg} (h : x = (a, b)) : Ending.returned (.agg #[.string a, .bool b]) = .returned (.agg #[.string x.1, .bool x.2]) := by rw [h]
set_option maxHeartbeats 4000000 in
set_option maxRecDepth 20000 in
theorem readRange_any (A : Option Addr) (n c : Nat) (l : List F.Fd) (w : World) (h : FdIn w A n l) :
    Calls Tryz.prog 21 #[.slice A n c] w fun e w' => e = .returned (.agg #[.string (rgD (F.ofD l nmR)).1, .bool (rgD (F.ofD l nmR)).2]) ∧ Below w.heap.size w w' := by
  have hG := fun W (e : Below w.heap.size w W) => F.get_any A n c l nmR W h.n1 (by have := h.m1; omega) h.mx (by decide) (h.below e).s1
  have HZ : Hid (∀ x r, F.ofD l nmR = x :: r → x.size ≤ 50000) := fun x r e => size_of h nmR (by rw [e]; exact List.mem_cons_self)
  have hq := getD_snd l nmR
  have hx := getD_fst l nmR
  clear h
  generalize (F.getD l nmR).1 = x at *
  generalize (F.getD l nmR).2 = q at *
  generalize F.ofD l nmR = vs at *
  cases vs with
  | nil =>
    obtain rfl : q = false := by simpa using hq
    clear hq hx HZ
    go_enter Tryz.func21, Tryz.ntmps21
    go_wp2_with fail
    with_reducible refine (hG _ ((Below.refl _ _).alloc (Nat.le_refl _) _)).mono ?_
    rintro e w1 ⟨rfl, hb1⟩
    obtain ⟨hc, hf, hz, B1⟩ := own_blk hb1
    go_wp2_with fail
    exact bodyPost_ret (v := .agg #[.string ⟨#[]⟩, .bool false]) (by simp [results, Tryz.results21, go_sem, hc]) rfl ⟨rfl, by first | exact B1 | exact (B1.setCell (Nat.le_refl _) _).setCell (Nat.le_refl _) _⟩
  | cons y r =>
    obtain rfl : q = true := by simpa using hq
    obtain rfl : x = y := hx
    have hy := HZ.out x r rfl
    have hP := fun W => T.parse_any x W (by unfold T.szM; omega)
    clear hq HZ
    have HF : Hid (rgD (x :: r) = if (T.readL (T.trimB x.data.toList)).2 then (T.readL (T.trimB x.data.toList)).1 else (⟨#[]⟩, true)) := rfl
    generalize rgD (x :: r) = R at *
    unfold T.parseV at hP
    generalize T.readL (T.trimB x.data.toList) = X at *
    obtain ⟨⟨tx, tw⟩, ok⟩ := X
    cases ok with
    | true =>
      have HR : Hid (R = (tx, tw)) := by unfold Hid; rw [HF.out]; rfl
      rw [show T.errD true = 0 from rfl] at hP
      simp only at hP
      clear HF
      go_enter Tryz.func21, Tryz.ntmps21
      go_wp2_with fail
      with_reducible refine (hG _ ((Below.refl _ _).alloc (Nat.le_refl _) _)).mono ?_
      rintro e w1 ⟨rfl, hb1⟩
      go_wp2_with fail
      with_reducible refine (hP _).mono ?_
      rintro e w2 ⟨rfl, hb2⟩
      obtain ⟨hc, hf, hz, B1⟩ := own_blk (hb1.trans (hb2.mono hb1.size))
      clear hb1 hb2
      go_wp2_with fail
      have kk := two_set (x := .string tx) (y := .bool tw) (o := .cells #[.string tx, .bool tw] 27) (hc 0) (hc 1) hz
      exact bodyPost_ret (v := .agg #[.string tx, .bool tw]) (by simp [results, Tryz.results21, go_sem, kk.1, kk.2]) rfl ⟨ret_tg HR.out, Below.alloc ((B1.setCell (Nat.le_refl _) _).setCell (Nat.le_refl _) _) (by simpa using B1.size) _⟩
    | false =>
      have HR : Hid (R = (⟨#[]⟩, true)) := by unfold Hid; rw [HF.out]; rfl
      rw [show T.errD false = 2 from rfl] at hP
      simp only at hP
      clear HF
      go_enter Tryz.func21, Tryz.ntmps21
      go_wp2_with fail
      with_reducible refine (hG _ ((Below.refl _ _).alloc (Nat.le_refl _) _)).mono ?_
      rintro e w1 ⟨rfl, hb1⟩
      go_wp2_with fail
      with_reducible refine (hP _).mono ?_
      rintro e w2 ⟨rfl, hb2⟩
      obtain ⟨hc, hf, hz, B1⟩ := own_blk (hb1.trans (hb2.mono hb1.size))
      clear hb1 hb2
      go_wp2_with fail
      have kk := two_set (x := .string ⟨#[]⟩) (y := .bool true) (o := .cells #[.string tx, .bool tw] 27) (hc 0) (hc 1) hz
      exact bodyPost_ret (v := .agg #[.string ⟨#[]⟩, .bool true]) (by simp [results, Tryz.results21, go_sem, kk.1, kk.2]) rfl ⟨ret_tg HR.out, Below.alloc ((B1.setCell (Nat.le_refl _) _).setCell (Nat.le_refl _) _) (by simpa using B1.size) _⟩
end Go.Proofs.YtomcoacndppkcaaGreatDoor
