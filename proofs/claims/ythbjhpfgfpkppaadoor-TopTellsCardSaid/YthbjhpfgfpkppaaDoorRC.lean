/-
  The reference's insert: a number into a rising list, once.
-/
import Derived.Test.YthbjhpfgfpkppaaDoorRA
namespace Go.Proofs.YthbjhpfgfpkppaaDoor.Rg
open Go Go.RowKit

/-- the call's own list of numbers, of spans -/
abbrev OwnI (w : World) (base : Nat) (v : Value) (l : List Int) : Prop := w.ownsRow base 2 1 v l.length (l.map (Value.int .i64))
abbrev OwnS (w : World) (base : Nat) (v : Value) (l : List Sp) : Prop := w.ownsRow base 31 2 v l.length (flat l)
/-- a slice of numbers reads so -/
def InAt (w : World) (B : Nat) (A : Option Addr) (l : List Int) : Prop :=
  0 < l.length → ∃ b o, A = some ⟨b, o, none⟩ ∧ b < B ∧ ∀ j (h : j < l.length), w.cell? ⟨b, o + j, none⟩ = some (.int .i64 l[j])
def IsIn (w : World) (v : Value) (l : List Int) : Prop := ∃ A c, v = .slice A l.length c ∧ l.length ≤ c ∧ InAt w w.heap.size A l
theorem InAt.below {w w' : World} {B B' : Nat} {A : Option Addr} {l : List Int} (h : InAt w B A l) (hb : Below B w w') (hB : B ≤ B') : InAt w' B' A l := fun hl => by
  obtain ⟨b, o, e, hlt, hc⟩ := h hl
  refine ⟨b, o, e, by omega, fun j hj => ?_⟩
  rw [hb.cell (p := ⟨b, o + j, none⟩) hlt]
  exact hc j hj
theorem IsIn.below {w w' : World} {v : Value} {l : List Int} (h : IsIn w v l) (hb : Below w.heap.size w w') : IsIn w' v l := by
  obtain ⟨A, c, e, hl, h⟩ := h
  exact ⟨A, c, e, hl, h.below hb hb.size⟩
theorem IsIn.own {w : World} {base : Nat} {v : Value} {l : List Int} (h : OwnI w base v l) : IsIn w v l := by
  rcases Nat.eq_zero_or_pos l.length with h0 | h0
  · have hl : l = [] := List.eq_nil_of_length_eq_zero h0
    subst hl
    rcases h.2 with ⟨rfl, _⟩ | ⟨g, cap, cur, rfl, _⟩
    · exact ⟨none, 0, rfl, Nat.le_refl _, fun h => absurd h (by simp)⟩
    · exact ⟨_, cap, rfl, Nat.zero_le _, fun h => absurd h (by simp)⟩
  · obtain ⟨g, cap, rfl, _, hlt⟩ := World.ownsRow.form h h0
    have hcap : l.length ≤ cap := by
      rcases h.2 with ⟨e, _⟩ | ⟨g', cap', cur, e, _, _, hc, _⟩
      · cases e
      · injection e with _ _ e; omega
    refine ⟨_, cap, rfl, hcap, fun _ => ⟨g, 0, rfl, hlt, fun j hj => ?_⟩⟩
    rw [Nat.zero_add, World.ownsRow.cellAt h j (by omega)]
    simp [hj]

theorem infoI64 : (Tryd.prog.info? 2).map (fun i => (i.zero, i.size, i.bytes)) = some (some (.int .i64 0), 1, 8) := by kernel_rfl
theorem infoSp : (Tryd.prog.info? 31).map (fun i => (i.zero, i.size, i.bytes)) = some (some (.agg #[.int .i64 0, .int .i64 0]), 2, 16) := by kernel_rfl

theorem own_ne {w : World} {base e size n b : Nat} {v : Value} {xs : List Value} (h : w.ownsRow base e size v n xs) (hb : b < base) : v.ownBlock ≠ some b := by
  obtain ⟨_, ⟨rfl, _⟩ | ⟨g, cap, cur, rfl, hg, _⟩⟩ := h
  · simp [Value.ownBlock]
  · simp only [Value.ownBlock]; intro q; injection q with q; omega
/-- behind an append onto a row of the call's own -/
theorem below_app {w W W1 : World} {B : Nat} {o : Obj} {v : Value} {e size n : Nat} {xs : List Value} (hbel : Below B w W) (hB : B ≤ W.heap.size) (hown : W.ownsRow B e size v n xs) (hg : (W.alloc o).grownBy W1 v.ownBlock) : Below B w W1 := by
  refine (hbel.alloc hB o).grown hg (by simp; omega) ?_
  intro k hk
  obtain ⟨_, ⟨rfl, _⟩ | ⟨g, cap, cur, rfl, hge, _⟩⟩ := hown
  · simp [Value.ownBlock] at hk
  · simp only [Value.ownBlock] at hk; injection hk with hk; omega

def InsR (n : Int) (l : List Int) (pt : Bool) (out : List Int) : Prop :=
  if pt then out = insL n l ∧ ∃ x ∈ l, n ≤ x else out = l ∧ ∀ x ∈ l, x < n
theorem InsR.start (n : Int) : InsR n [] false [] := by simp [InsR]
theorem InsR.done {n x : Int} {l out : List Int} (h : InsR n l true out) : InsR n (l ++ [x]) true (out ++ [x]) := by
  simp only [InsR, if_true] at h ⊢
  obtain ⟨rfl, y, hy, k⟩ := h
  exact ⟨(insL_snoc_done ⟨y, hy, k⟩).symm, y, List.mem_append_left _ hy, k⟩
theorem InsR.lt {n x : Int} {l out : List Int} (h : InsR n l false out) (hx : x < n) : InsR n (l ++ [x]) false (out ++ [x]) := by
  simp only [InsR, Bool.false_eq_true, if_false] at h ⊢
  obtain ⟨rfl, k⟩ := h
  refine ⟨rfl, fun y hy => ?_⟩
  rcases List.mem_append.1 hy with hy | hy
  · exact k y hy
  · simp at hy; omega
theorem InsR.eq {n : Int} {l out : List Int} (h : InsR n l false out) : InsR n (l ++ [n]) true (out ++ [n]) := by
  simp only [InsR, Bool.false_eq_true, if_false, if_true] at h ⊢
  obtain ⟨rfl, k⟩ := h
  exact ⟨by rw [insL_snoc_now k (Int.le_refl _), if_neg (by omega)], n, by simp, Int.le_refl _⟩
theorem InsR.gt {n x : Int} {l out : List Int} (h : InsR n l false out) (hx : n < x) : InsR n (l ++ [x]) true (out ++ [n] ++ [x]) := by
  simp only [InsR, Bool.false_eq_true, if_false, if_true] at h ⊢
  obtain ⟨rfl, k⟩ := h
  exact ⟨by rw [insL_snoc_now k (by omega), if_pos hx]; simp, x, by simp, by omega⟩
theorem InsR.end_t {n : Int} {l out : List Int} (h : InsR n l true out) : out = insL n l := by simp only [InsR, if_true] at h; exact h.1
theorem InsR.end_f {n : Int} {l out : List Int} (h : InsR n l false out) : out ++ [n] = insL n l := by
  simp only [InsR, Bool.false_eq_true, if_false] at h
  rw [h.1, insL_lt h.2]
theorem own_snoc {w : World} {base g cap : Nat} {out : List Int} {x : Int} (h : w.ownsRow base 2 1 (.slice (some ⟨g, 0, none⟩) (out.length + 1) cap) (out.length + 1) (out.map (Value.int .i64) ++ [.int .i64 x])) :
    OwnI w base (.slice (some ⟨g, 0, none⟩) (out.length + 1) cap) (out ++ [x]) := by
  unfold OwnI; simpa using h

/-- what insert leaves -/
def InsPost (n : Int) (l : List Int) (w w' : World) (e : Ending) : Prop := ∃ v, e = .returned v ∧ OwnI w' w.heap.size v (insL n l) ∧ Below w.heap.size w w'

end Go.Proofs.YthbjhpfgfpkppaaDoor.Rg
