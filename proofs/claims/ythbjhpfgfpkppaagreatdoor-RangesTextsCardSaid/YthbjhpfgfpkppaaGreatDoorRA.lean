/-
  Slices of spans in memory, read and owned; the simple calls over them: too great, is a byte in one, the same one by one.
-/
import Derived.Lib.Hide
import Derived.WalkSpells
import Derived.Deep.RegionHeld3
import Derived.Deep.AppendLies
import Derived.Laws.OwnMore
import Derived.Laws.StructEq
import Derived.KernelRfl
import Derived.Test.YthbjhpfgfpkppaaGreatDoorRef01A
import Derived.Test.YthbjhpfgfpkppaaGreatDoorRMath
namespace Go.Proofs.YthbjhpfgfpkppaaGreatDoor
open Go Go.RowKit

/-- the cells of spans -/
def flat (l : List Sp) : List Value := l.flatMap fun x => [.int .i64 x.1, .int .i64 x.2]
theorem flat_nil : flat [] = [] := rfl
theorem flat_cons (x : Sp) (l : List Sp) : flat (x :: l) = .int .i64 x.1 :: .int .i64 x.2 :: flat l := rfl
theorem flat_append (l m : List Sp) : flat (l ++ m) = flat l ++ flat m := by simp [flat]
theorem flat_len : ∀ l : List Sp, (flat l).length = l.length * 2
  | [] => rfl
  | x :: l => by rw [flat_cons]; have := flat_len l; simp; omega
theorem flat_get0 : ∀ (l : List Sp) (j : Nat) (h : j < l.length), (flat l)[j * 2]? = some (.int .i64 l[j].1)
  | x :: l, 0, _ => rfl
  | x :: l, j + 1, h => by
    rw [flat_cons, show (j + 1) * 2 = j * 2 + 1 + 1 by omega]
    simpa using flat_get0 l j (by simpa using h)
theorem flat_get1 : ∀ (l : List Sp) (j : Nat) (h : j < l.length), (flat l)[j * 2 + 1]? = some (.int .i64 l[j].2)
  | x :: l, 0, _ => rfl
  | x :: l, j + 1, h => by
    rw [flat_cons, show (j + 1) * 2 + 1 = j * 2 + 1 + 1 + 1 by omega]
    simpa using flat_get1 l j (by simpa using h)

/-- what a slice of spans reads as, below block B: address, list -/
def SpAt (w : World) (B : Nat) (A : Option Addr) (l : List Sp) : Prop :=
  0 < l.length → ∃ b o, A = some ⟨b, o, none⟩ ∧ b < B ∧ ∀ j (h : j < l.length), w.cell? ⟨b, o + j * 2, none⟩ = some (.int .i64 l[j].1) ∧ w.cell? ⟨b, o + j * 2 + 1, none⟩ = some (.int .i64 l[j].2)
/-- a value that is such a slice -/
def IsSp (w : World) (v : Value) (l : List Sp) : Prop := ∃ A c, v = .slice A l.length c ∧ l.length ≤ c ∧ SpAt w w.heap.size A l

theorem SpAt.below {w w' : World} {B B' : Nat} {A : Option Addr} {l : List Sp} (h : SpAt w B A l) (hb : Below B w w') (hB : B ≤ B') : SpAt w' B' A l := fun hl => by
  obtain ⟨b, o, e, hlt, hc⟩ := h hl
  refine ⟨b, o, e, by omega, fun j hj => ?_⟩
  rw [hb.cell (p := ⟨b, o + j * 2, none⟩) hlt, hb.cell (p := ⟨b, o + j * 2 + 1, none⟩) hlt]
  exact hc j hj
theorem IsSp.below {w w' : World} {v : Value} {l : List Sp} (h : IsSp w v l) (hb : Below w.heap.size w w') : IsSp w' v l := by
  obtain ⟨A, c, e, hl, h⟩ := h
  exact ⟨A, c, e, hl, h.below hb hb.size⟩
theorem IsSp.nil (w : World) : IsSp w (.slice none 0 0) [] := ⟨none, 0, rfl, Nat.le_refl _, fun h => absurd h (by simp)⟩
theorem IsSp.own {w : World} {base : Nat} {v : Value} {l : List Sp} (h : w.ownsRow base 41 2 v l.length (flat l)) : IsSp w v l := by
  rcases Nat.eq_zero_or_pos l.length with h0 | h0
  · have hl : l = [] := List.eq_nil_of_length_eq_zero h0
    subst hl
    rcases h.2 with ⟨rfl, _⟩ | ⟨g, cap, cur, rfl, _⟩
    · exact IsSp.nil w
    · exact ⟨_, cap, rfl, Nat.zero_le _, fun h => absurd h (by simp)⟩
  · obtain ⟨g, cap, rfl, _, hlt⟩ := h.form h0
    have hcap : l.length ≤ cap := by
      rcases h.2 with ⟨e, _⟩ | ⟨g', cap', cur, e, _, _, hc, _⟩
      · cases e
      · injection e with _ _ e; omega
    refine ⟨_, cap, rfl, hcap, fun _ => ⟨g, 0, rfl, hlt, fun j hj => ?_⟩⟩
    rw [Nat.zero_add, h.cellAt (j * 2) (by omega), h.cellAt (j * 2 + 1) (by omega)]
    exact ⟨flat_get0 l j hj, flat_get1 l j hj⟩

/- too great -/
def greatB (n : Nat → Nat) (m : Nat) : Bool := (List.range m).any fun j => decide (20 < n j)
theorem greatB_succ (n : Nat → Nat) (m : Nat) : greatB n (m + 1) = (greatB n m || decide (20 < n m)) := by
  simp [greatB, List.range_succ]
theorem greatB_at {n : Nat → Nat} {k m : Nat} (h : k < m) (h2 : 20 < n k) : greatB n m = true := by
  unfold greatB; rw [List.any_eq_true]; exact ⟨k, by simpa using h, by simpa using h2⟩

set_option maxHeartbeats 800000 in
theorem great_any (b m : Nat) (f : Nat → Option Addr) (n c : Nat → Nat) (w : World) (hm : m ≤ 100) (hc : ∀ j, j < m → w.cell? ⟨b, j, none⟩ = some (.slice (f j) (n j) (c j))) (hn : ∀ j, j < m → n j ≤ maxLen) :
    Calls Tryz.prog 5 #[.slice (some ⟨b, 0, none⟩) m m] w fun e w' => e = .returned (.bool (greatB n m)) ∧ w = w' := by
  have HC := Lib.hid hc; have HN := Lib.hid hn
  clear hc hn
  go_enter Tryz.func5, Tryz.ntmps5
  go_wp2
  go_loop [4, 7] (fun _ i => ∃ k : Nat, k ≤ m ∧ i = .int .i64 k ∧ Hid (greatB n k = false)) (fun _ i => m - (intOf i).toNat)
  case atStart => exact ⟨0, Nat.zero_le _, rfl, rfl⟩
  case round =>
    obtain ⟨k, hk, rfl, HG⟩ := hrel
    by_cases hlt : k < m
    · have hck := HC.out k hlt
      have hnk := HN.out k hlt
      unfold maxLen at hnk
      by_cases hg : 20 < n k
      · have HR : Hid (greatB n m = true) := greatB_at hlt hg
        go_wp2
        go_ret
        exact ⟨ret_bool HR.out.symm, rfl⟩
      · have HR : Hid (greatB n (k + 1) = false) := by unfold Hid; rw [greatB_succ, HG.out]; simpa using hg
        clear HG
        go_wp2
        go_round
        case rel => exact ⟨k + 1, by omega, by go_num, HR⟩
        case measure => simp [intOf]; omega
    · obtain rfl : k = m := by omega
      go_wp2
      go_ret
      exact ⟨ret_bool HG.out.symm, rfl⟩

/-- is a byte in one -/
def anyHas (l : List Sp) (p : Int) : Bool := l.any fun x => hasB x.1 x.2 p
theorem hasB_iff {x : Sp} {p : Int} : hasB x.1 x.2 p = true ↔ InS x p := by
  unfold hasB rtB InS; simp; omega
theorem anyHas_iff {l : List Sp} {p : Int} : anyHas l p = true ↔ InL l p := by
  unfold anyHas InL; rw [List.any_eq_true]
  exact ⟨fun ⟨x, h, k⟩ => ⟨x, h, hasB_iff.1 k⟩, fun ⟨x, h, k⟩ => ⟨x, h, hasB_iff.2 k⟩⟩
theorem anyHas_take {l : List Sp} {p : Int} {k : Nat} (h : k < l.length) : anyHas (l.take (k + 1)) p = (anyHas (l.take k) p || hasB l[k].1 l[k].2 p) := by
  unfold anyHas; rw [List.take_succ_eq_append_getElem h, List.any_append, List.any_cons, List.any_nil, Bool.or_false]
theorem anyHas_at {l : List Sp} {p : Int} {k : Nat} (h : k < l.length) (hk : hasB l[k].1 l[k].2 p = true) : anyHas l p = true := by
  unfold anyHas; rw [List.any_eq_true]; exact ⟨l[k], List.getElem_mem h, hk⟩

set_option maxHeartbeats 1600000 in
theorem in_any (A : Option Addr) (c : Nat) (l : List Sp) (p : Int) (w : World) (hm : l.length ≤ 1000000) (hs : SpAt w w.heap.size A l) :
    Calls Tryz.prog 48 #[.slice A l.length c, .int .i64 p] w fun e w' => e = .returned (.bool (anyHas l p)) ∧ Below w.heap.size w w' := by
  have HS := Lib.hid hs
  clear hs
  generalize hn : l.length = n at *
  have HL := Lib.hid hn
  clear hn
  go_enter Tryz.func48, Tryz.ntmps48
  go_wp2
  go_loopw [5] (fun i wr => ∃ k : Nat, k ≤ n ∧ i = .int .i64 k ∧ Hid (anyHas (l.take k) p = false) ∧ Below w.heap.size w wr) (fun i _ => n - (intOf i).toNat)
  case atStart => exact ⟨0, Nat.zero_le _, rfl, rfl, Below.refl _ _⟩
  case round =>
    obtain ⟨k, hk, rfl, HG, hbel⟩ := hrel
    by_cases hlt : k < n
    · have hkl : k < l.length := by have := HL.out; omega
      obtain ⟨b, o, rfl, hb, hc⟩ := (HS.out.below hbel (Nat.le_refl _)) (by omega)
      obtain ⟨c0, c1⟩ := hc k hkl
      clear hc
      have HT := Lib.hid (anyHas_take (p := p) hkl)
      have HA := Lib.hid (fun h => anyHas_at (p := p) hkl h)
      generalize l[k].1 = x at *
      generalize l[k].2 = y at *
      have hbz : b < wr.heap.size := by have := hbel.size; omega
      have HX : Hid (anyHas (l.take (k + 1)) p = hasB x y p) := by unfold Hid; rw [HT.out, HG.out, Bool.false_or]
      clear HT HG
      cases hr : rtB x y with
      | false =>
        have HF : Hid (anyHas (l.take (k + 1)) p = false) := by unfold Hid; rw [HX.out]; simp [hasB, hr]
        clear HX HA HS HL
        go_wp2_with (go_at_call 44; with_reducible refine (rright_any x y _).mono ?_; rintro e w1 ⟨rfl, hb1⟩; obtain ⟨hc1, hf1⟩ := bcell hb1; have B1 := bel hbel hb1; clear hb1)
        go_roundw
        case rel => exact ⟨k + 1, by omega, by go_num, HF, B1⟩
        case measure => simp [intOf]; omega
      | true =>
        by_cases h1 : x ≤ p
        · by_cases h2 : p < y
          · have HF : Hid (anyHas l p = true) := HA.out (by simp [hasB, hr, h1, h2])
            clear HX HA HS HL
            go_wp2_with (go_at_call 44; with_reducible refine (rright_any x y _).mono ?_; rintro e w1 ⟨rfl, hb1⟩; obtain ⟨hc1, hf1⟩ := bcell hb1; have B1 := bel hbel hb1; clear hb1)
            go_ret
            exact ⟨ret_bool HF.out.symm, B1⟩
          · have HF : Hid (anyHas (l.take (k + 1)) p = false) := by unfold Hid; rw [HX.out]; simp [hasB, hr]; omega
            clear HX HA HS HL
            go_wp2_with (go_at_call 44; with_reducible refine (rright_any x y _).mono ?_; rintro e w1 ⟨rfl, hb1⟩; obtain ⟨hc1, hf1⟩ := bcell hb1; have B1 := bel hbel hb1; clear hb1)
            go_roundw
            case rel => exact ⟨k + 1, by omega, by go_num, HF, B1⟩
            case measure => simp [intOf]; omega
        · have HF : Hid (anyHas (l.take (k + 1)) p = false) := by unfold Hid; rw [HX.out]; simp [hasB, hr]; omega
          clear HX HA HS HL
          go_wp2_with (go_at_call 44; with_reducible refine (rright_any x y _).mono ?_; rintro e w1 ⟨rfl, hb1⟩; obtain ⟨hc1, hf1⟩ := bcell hb1; have B1 := bel hbel hb1; clear hb1)
          go_roundw
          case rel => exact ⟨k + 1, by omega, by go_num, HF, B1⟩
          case measure => simp [intOf]; omega
    · obtain rfl : k = n := by omega
      go_wp2
      go_ret
      exact ⟨ret_bool (by rw [← HG.out, List.take_of_length_le (by have := HL.out; omega)]), hbel⟩
end Go.Proofs.YthbjhpfgfpkppaaGreatDoor
