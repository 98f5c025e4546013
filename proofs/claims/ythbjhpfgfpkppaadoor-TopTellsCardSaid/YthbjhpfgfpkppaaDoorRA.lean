/-
  Slices of spans in memory, read and owned; the simple calls over them: too great, is a byte in one, the same one by one.
-/
import Derived.Lib.Hide
import Derived.WalkSpells
import Derived.Deep.RegionHeld3
import Derived.Deep.AppendLies
import Derived.Laws.OwnMore
import Derived.Laws.StructEq
import Derived.KernelRfl
import Derived.Test.YthbjhpfgfpkppaaDoorRef01A
import Derived.Test.YthbjhpfgfpkppaaDoorRMath
namespace Go.Proofs.YthbjhpfgfpkppaaDoor.Rg
open Go Go.RowKit

/-- the cells of spans -/
def flat (l : List Sp) : List Value := l.flatMap fun x => [.int .i64 x.1, .int .i64 x.2]
theorem flat_nil : flat [] = [] := rfl
theorem flat_cons (x : Sp) (l : List Sp) : flat (x :: l) = .int .i64 x.1 :: .int .i64 x.2 :: flat l := rfl
theorem flat_append (l m : List Sp) : flat (l ++ m) = flat l ++ flat m := by simp [flat]
theorem flat_len : ∀ l : List Sp, (flat l).length = l.length * 2
  | [] => rfl
  | x :: l => by rw [flat_cons]; have := flat_len l; simp; omega
theorem flat_get0 : ∀ (l : List Sp) (j : Nat) (h : j < l.length), (flat l)[j * 2]? = some (.int .i64 l[j].1)
  | x :: l, 0, _ => rfl
  | x :: l, j + 1, h => by
    rw [flat_cons, show (j + 1) * 2 = j * 2 + 1 + 1 by omega]
    simpa using flat_get0 l j (by simpa using h)
theorem flat_get1 : ∀ (l : List Sp) (j : Nat) (h : j < l.length), (flat l)[j * 2 + 1]? = some (.int .i64 l[j].2)
  | x :: l, 0, _ => rfl
  | x :: l, j + 1, h => by
    rw [flat_cons, show (j + 1) * 2 + 1 = j * 2 + 1 + 1 + 1 by omega]
    simpa using flat_get1 l j (by simpa using h)

/-- what a slice of spans reads as, below block B: address, list -/
def SpAt (w : World) (B : Nat) (A : Option Addr) (l : List Sp) : Prop :=
  0 < l.length → ∃ b o, A = some ⟨b, o, none⟩ ∧ b < B ∧ ∀ j (h : j < l.length), w.cell? ⟨b, o + j * 2, none⟩ = some (.int .i64 l[j].1) ∧ w.cell? ⟨b, o + j * 2 + 1, none⟩ = some (.int .i64 l[j].2)
/-- a value that is such a slice -/
def IsSp (w : World) (v : Value) (l : List Sp) : Prop := ∃ A c, v = .slice A l.length c ∧ l.length ≤ c ∧ SpAt w w.heap.size A l

theorem SpAt.below {w w' : World} {B B' : Nat} {A : Option Addr} {l : List Sp} (h : SpAt w B A l) (hb : Below B w w') (hB : B ≤ B') : SpAt w' B' A l := fun hl => by
  obtain ⟨b, o, e, hlt, hc⟩ := h hl
  refine ⟨b, o, e, by omega, fun j hj => ?_⟩
  rw [hb.cell (p := ⟨b, o + j * 2, none⟩) hlt, hb.cell (p := ⟨b, o + j * 2 + 1, none⟩) hlt]
  exact hc j hj
theorem IsSp.below {w w' : World} {v : Value} {l : List Sp} (h : IsSp w v l) (hb : Below w.heap.size w w') : IsSp w' v l := by
  obtain ⟨A, c, e, hl, h⟩ := h
  exact ⟨A, c, e, hl, h.below hb hb.size⟩
theorem IsSp.nil (w : World) : IsSp w (.slice none 0 0) [] := ⟨none, 0, rfl, Nat.le_refl _, fun h => absurd h (by simp)⟩
theorem IsSp.own {w : World} {base : Nat} {v : Value} {l : List Sp} (h : w.ownsRow base 31 2 v l.length (flat l)) : IsSp w v l := by
  rcases Nat.eq_zero_or_pos l.length with h0 | h0
  · have hl : l = [] := List.eq_nil_of_length_eq_zero h0
    subst hl
    rcases h.2 with ⟨rfl, _⟩ | ⟨g, cap, cur, rfl, _⟩
    · exact IsSp.nil w
    · exact ⟨_, cap, rfl, Nat.zero_le _, fun h => absurd h (by simp)⟩
  · obtain ⟨g, cap, rfl, _, hlt⟩ := h.form h0
    have hcap : l.length ≤ cap := by
      rcases h.2 with ⟨e, _⟩ | ⟨g', cap', cur, e, _, _, hc, _⟩
      · cases e
      · injection e with _ _ e; omega
    refine ⟨_, cap, rfl, hcap, fun _ => ⟨g, 0, rfl, hlt, fun j hj => ?_⟩⟩
    rw [Nat.zero_add, h.cellAt (j * 2) (by omega), h.cellAt (j * 2 + 1) (by omega)]
    exact ⟨flat_get0 l j hj, flat_get1 l j hj⟩

/- too great -/
def greatB (n : Nat → Nat) (m : Nat) : Bool := (List.range m).any fun j => decide (20 < n j)
theorem greatB_succ (n : Nat → Nat) (m : Nat) : greatB n (m + 1) = (greatB n m || decide (20 < n m)) := by
  simp [greatB, List.range_succ]
theorem greatB_at {n : Nat → Nat} {k m : Nat} (h : k < m) (h2 : 20 < n k) : greatB n m = true := by
  unfold greatB; rw [List.any_eq_true]; exact ⟨k, by simpa using h, by simpa using h2⟩

/-- is a byte in one -/
def anyHas (l : List Sp) (p : Int) : Bool := l.any fun x => hasB x.1 x.2 p
theorem hasB_iff {x : Sp} {p : Int} : hasB x.1 x.2 p = true ↔ InS x p := by
  unfold hasB rtB InS; simp; omega
theorem anyHas_iff {l : List Sp} {p : Int} : anyHas l p = true ↔ InL l p := by
  unfold anyHas InL; rw [List.any_eq_true]
  exact ⟨fun ⟨x, h, k⟩ => ⟨x, h, hasB_iff.1 k⟩, fun ⟨x, h, k⟩ => ⟨x, h, hasB_iff.2 k⟩⟩
theorem anyHas_take {l : List Sp} {p : Int} {k : Nat} (h : k < l.length) : anyHas (l.take (k + 1)) p = (anyHas (l.take k) p || hasB l[k].1 l[k].2 p) := by
  unfold anyHas; rw [List.take_succ_eq_append_getElem h, List.any_append, List.any_cons, List.any_nil, Bool.or_false]
theorem anyHas_at {l : List Sp} {p : Int} {k : Nat} (h : k < l.length) (hk : hasB l[k].1 l[k].2 p = true) : anyHas l p = true := by
  unfold anyHas; rw [List.any_eq_true]; exact ⟨l[k], List.getElem_mem h, hk⟩

end Go.Proofs.YthbjhpfgfpkppaaDoor.Rg
