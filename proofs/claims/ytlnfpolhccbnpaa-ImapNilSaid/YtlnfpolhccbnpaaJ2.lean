/-
  What the reference tells of a byte.
-/
import Derived.Test.YtlnfpolhccbnpaaII
namespace Go.Proofs.Ytlnfpolhccbnpaa
open Go Go.RowKit

/-- does an act have a byte -/
def hitB (x : Ac) (p : Int) : Bool := decide (0 < lenI x.2.1 x.2.2.1) && decide (x.2.1 ≤ p) && decide (p < x.2.2.1)
/-- what the last act that has a byte told of it -/
def tldI (l : List Ac) (p : Int) : Int × Bool := l.foldl (fun r x => if hitB x p then (x.2.2.2, !x.1) else r) (0, false)
theorem tldI_take {l : List Ac} {k : Nat} (h : k < l.length) (p : Int) : tldI (l.take (k + 1)) p = if hitB l[k] p then (l[k].2.2.2, !l[k].1) else tldI (l.take k) p := by
  unfold tldI
  rw [List.take_succ_eq_append_getElem h, List.foldl_append]; rfl
theorem tldI_tell (p : Int) : ∀ (l : List Ac) (D : List Rn) (r : Int × Bool), Good 0 none D → tell D p = (if r.2 then some r.1 else Option.none) →
    tell (actsI D l) p = if (l.foldl (fun r x => if hitB x p then (x.2.2.2, !x.1) else r) r).2 then some (l.foldl (fun r x => if hitB x p then (x.2.2.2, !x.1) else r) r).1 else Option.none
  | [], D, r, _, h => h
  | x :: l, D, r, hg, h => by
    show tell (actsI (actI D x) l) p = _
    rw [List.foldl_cons]
    refine tldI_tell p l _ _ (actI_good hg x) ?_
    obtain ⟨d, a, b, v⟩ := x
    unfold actI hitB
    simp only
    cases d with
    | true =>
      simp only [if_true]
      rw [dropI_tell a b hg]
      by_cases h1 : 0 < lenI a b <;> by_cases h2 : a ≤ p <;> by_cases h3 : p < b <;> simp [h1, h2, h3, h]
    | false =>
      simp only [Bool.false_eq_true, if_false]
      rw [putI_tell a b v hg]
      by_cases h1 : 0 < lenI a b <;> by_cases h2 : a ≤ p <;> by_cases h3 : p < b <;> simp [h1, h2, h3, h]
theorem tld_acts (l : List Ac) (p : Int) : tell (actsI [] l) p = if (tldI l p).2 then some (tldI l p).1 else Option.none := tldI_tell p l [] (0, false) trivial rfl

set_option maxHeartbeats 2000000 in
theorem does_any (d : Bool) (a b v : Int) (w : World) :
    Calls Try.prog 48 #[.agg #[.bool d, .int .i64 a, .int .i64 b, .int .i64 v]] w fun e w' => e = .returned (.bool (decide (0 < lenI a b))) ∧ Ext w w' := by
  have e1 : Ext w (w.alloc (.cells #[.bool d, .int .i64 a, .int .i64 b, .int .i64 v] 63)) := (Below.refl _ _).alloc (Nat.le_refl _) _
  have hz1 : w.heap.size < (w.alloc (.cells #[.bool d, .int .i64 a, .int .i64 b, .int .i64 v] 63)).heap.size := by simp
  cases hr : rtB a b with
  | false =>
    have HF : Hid (decide (0 < lenI a b) = false) := by unfold Hid; simp only [decide_eq_false_iff_not, len_pos]; intro h; have := rtB_f hr; omega
    go_enter Try.func48, Try.ntmps48
    go_wp2_with (go_at_call 43; with_reducible refine (rright_any a b _).mono ?_; rw [hr]; rintro e w1 ⟨rfl, hb1⟩; have X1 : Ext w w1 := Ext.tr e1 hb1)
    go_ret
    exact ⟨ret_bool HF.out.symm, X1⟩
  | true =>
    have ht := rtB_t hr
    by_cases h : a < b
    · have HF : Hid (decide (0 < lenI a b) = true) := by unfold Hid; simp only [decide_eq_true_eq, len_pos]; omega
      go_enter Try.func48, Try.ntmps48
      go_wp2_with (go_at_call 43; with_reducible refine (rright_any a b _).mono ?_; rw [hr]; rintro e w1 ⟨rfl, hb1⟩; have X1 : Ext w w1 := Ext.tr e1 hb1; obtain ⟨hc1, hf1⟩ := bcell hb1)
      go_ret
      exact ⟨ret_bool HF.out.symm, X1⟩
    · have HF : Hid (decide (0 < lenI a b) = false) := by unfold Hid; simp only [decide_eq_false_iff_not, len_pos]; omega
      have hd : decide (a < b) = false := by simpa using h
      go_enter Try.func48, Try.ntmps48
      go_wp2_with (go_at_call 43; with_reducible refine (rright_any a b _).mono ?_; rw [hr]; rintro e w1 ⟨rfl, hb1⟩; have X1 : Ext w w1 := Ext.tr e1 hb1; obtain ⟨hc1, hf1⟩ := bcell hb1)
      go_ret
      exact ⟨ret_bool HF.out.symm, X1⟩

set_option maxHeartbeats 8000000 in
set_option maxRecDepth 100000 in
theorem told_any (A : Option Addr) (n c : Nat) (l : List Ac) (p : Int) (w : World) (hn : l.length = n) (hm : n ≤ 1000) (hs : AcAt w w.heap.size A l) :
    Calls Try.prog 26 #[.slice A n c, .int .i64 p] w fun e w' => e = .returned (.tuple #[.int .i64 (tldI l p).1, .bool (tldI l p).2]) ∧ Ext w w' := by
  have HS := Lib.hid hs; have HN := Lib.hid hn
  clear hs hn
  have hw0 : IntKind.i64.wrap ((n : Int) - 1) = (n : Int) - 1 := by rw [IntKind.wrap_i64]; omega
  go_enter Try.func26, Try.ntmps26
  go_wp2
  go_loopw [6] (fun i wr => ∃ k : Nat, k ≤ n ∧ i = .int .i64 ((k : Int) - 1) ∧ Hid (tldI l p = tldI (l.take k) p) ∧ Ext w wr) (fun i _ => (intOf i + 1).toNat)
  case atStart => exact ⟨n, Nat.le_refl _, rfl, by unfold Hid; rw [List.take_of_length_le (by have := HN.out; omega)], Ext.rf _⟩
  case round =>
    obtain ⟨k, hk, rfl, HG, hE⟩ := hrel
    rcases Nat.eq_zero_or_pos k with h0 | h0
    · subst h0
      have HF : Hid (tldI l p = (0, false)) := by unfold Hid; rw [HG.out]; rfl
      clear HG
      go_wp2
      exact bodyPost_ret (v := .tuple #[.int .i64 0, .bool false]) (by simp [results, Try.results26, go_sem]) rfl ⟨by rw [HF.out], hE⟩
    · obtain ⟨j, rfl⟩ : ∃ j, k = j + 1 := ⟨k - 1, by omega⟩
      have hjl : j < l.length := by have := HN.out; omega
      have hcast : (((j + 1 : Nat) : Int) - 1) = (j : Int) := by omega
      rw [hcast]
      obtain ⟨b, o, rfl, hb, hc⟩ := (HS.out.ext hE) (by omega)
      obtain ⟨c0, c1, c2, c3⟩ := hc j hjl
      clear hc
      have HT := Lib.hid (tldI_take hjl p)
      generalize l[j] = X at *
      obtain ⟨d, x, y, v⟩ := X
      simp only at c0 c1 c2 c3
      have q1 : (0 : Int) ≤ (j : Int) := by omega
      have q2 : (j : Int) < (n : Int) := by omega
      have q3 : IntKind.i64.wrap ((j : Int) - 1) = (j : Int) - 1 := by rw [IntKind.wrap_i64]; omega
      have hD := Lib.hid (fun W => does_any d x y v W)
      by_cases h1 : 0 < lenI x y
      · rw [show decide (0 < lenI x y) = true by simpa using h1] at hD
        by_cases h2 : x ≤ p
        · by_cases h3 : p < y
          · have HF : Hid (tldI l p = (v, !d)) := by
              unfold Hid; rw [HG.out, HT.out]; simp [hitB, h1, h2, h3]
            clear HT HG
            go_wp2_with (go_at_call 48; with_reducible refine (hD.out _).mono ?_; rintro e w1 ⟨rfl, E1⟩; have X1 : Ext w w1 := Ext.tr hE E1; have k0 := (E1.cell (p := ⟨b, o + j * 4, none⟩) hb).trans c0; have k1 := (E1.cell (p := ⟨b, o + j * 4 + 1, none⟩) hb).trans c1; have k2 := (E1.cell (p := ⟨b, o + j * 4 + 2, none⟩) hb).trans c2; have k3 := (E1.cell (p := ⟨b, o + j * 4 + 3, none⟩) hb).trans c3; have hb1 : b < w1.heap.size := (by have := E1.size; omega))
            go_quiet (fail)
            go_wp2
            refine bodyPost_ret (v := .tuple #[.int .i64 v, .bool (!d)]) (by simp [results, Try.results26, go_sem]) rfl ⟨by rw [HF.out], ?_⟩
            exact Ext.tr X1 (ext_drewN _ _)
          · have HF : Hid (tldI l p = tldI (l.take j) p) := by
              unfold Hid; rw [HG.out, HT.out]; simp [hitB, h1, h2, h3]
            clear HT HG
            go_wp2_with (go_at_call 48; with_reducible refine (hD.out _).mono ?_; rintro e w1 ⟨rfl, E1⟩; have X1 : Ext w w1 := Ext.tr hE E1; have k0 := (E1.cell (p := ⟨b, o + j * 4, none⟩) hb).trans c0; have k1 := (E1.cell (p := ⟨b, o + j * 4 + 1, none⟩) hb).trans c1; have k2 := (E1.cell (p := ⟨b, o + j * 4 + 2, none⟩) hb).trans c2; have k3 := (E1.cell (p := ⟨b, o + j * 4 + 3, none⟩) hb).trans c3; have hb1 : b < w1.heap.size := (by have := E1.size; omega))
            go_roundw
            case rel => exact ⟨j, by omega, rfl, HF, X1⟩
            case measure => simp [intOf]
        · have HF : Hid (tldI l p = tldI (l.take j) p) := by
            unfold Hid; rw [HG.out, HT.out]; simp [hitB, h1, h2]
          clear HT HG
          go_wp2_with (go_at_call 48; with_reducible refine (hD.out _).mono ?_; rintro e w1 ⟨rfl, E1⟩; have X1 : Ext w w1 := Ext.tr hE E1; have k0 := (E1.cell (p := ⟨b, o + j * 4, none⟩) hb).trans c0; have k1 := (E1.cell (p := ⟨b, o + j * 4 + 1, none⟩) hb).trans c1; have k2 := (E1.cell (p := ⟨b, o + j * 4 + 2, none⟩) hb).trans c2; have k3 := (E1.cell (p := ⟨b, o + j * 4 + 3, none⟩) hb).trans c3; have hb1 : b < w1.heap.size := (by have := E1.size; omega))
          go_roundw
          case rel => exact ⟨j, by omega, rfl, HF, X1⟩
          case measure => simp [intOf]
      · rw [show decide (0 < lenI x y) = false by simpa using h1] at hD
        have HF : Hid (tldI l p = tldI (l.take j) p) := by
          unfold Hid; rw [HG.out, HT.out]; simp [hitB, h1]
        clear HT HG
        go_wp2_with (go_at_call 48; with_reducible refine (hD.out _).mono ?_; rintro e w1 ⟨rfl, E1⟩; have X1 : Ext w w1 := Ext.tr hE E1; have k0 := (E1.cell (p := ⟨b, o + j * 4, none⟩) hb).trans c0; have k1 := (E1.cell (p := ⟨b, o + j * 4 + 1, none⟩) hb).trans c1; have k2 := (E1.cell (p := ⟨b, o + j * 4 + 2, none⟩) hb).trans c2; have k3 := (E1.cell (p := ⟨b, o + j * 4 + 3, none⟩) hb).trans c3; have hb1 : b < w1.heap.size := (by have := E1.size; omega))
        go_roundw
        case rel => exact ⟨j, by omega, rfl, HF, X1⟩
        case measure => simp [intOf]
end Go.Proofs.Ytlnfpolhccbnpaa
