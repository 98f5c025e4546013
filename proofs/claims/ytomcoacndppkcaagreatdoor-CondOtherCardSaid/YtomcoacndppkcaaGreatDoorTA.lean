/-
  Layer 5 (tag): tags in memory, slices of tags read and owned, append to them.
-/
import Derived.Test.YtomcoacndppkcaaGreatDoorProg
import Derived.WalkKit
import Derived.BigQuiet
import Derived.Deep.QuietTactic
import Derived.RegionTactic
import Derived.ChangeAlike
import Derived.Outline
import Derived.Handy
import Derived.Lib.Hide
import Derived.Lib.Strings
import Derived.WalkSpells
import Derived.Deep.RegionHeld3
import Derived.Deep.AppendLies
import Derived.Laws.OwnMore
import Derived.Laws.StructEq
import Derived.Laws.AppendOwnNone
import Derived.KernelRfl
import Derived.Test.YtomcoacndppkcaaGreatDoorRegion
namespace Go.Proofs.YtomcoacndppkcaaGreatDoor.T
open Go Go.RowKit

theorem ret_bool {a b : Bool} (h : a = b) : Ending.returned (.bool a) = .returned (.bool b) := by rw [h]
theorem ret_int {k : IntKind} {a b : Int} (h : a = b) : Ending.returned (.int k a) = .returned (.int k b) := by rw [h]
theorem ret_str {a b : ByteArray} (h : a = b) : Ending.returned (.string a) = .returned (.string b) := by rw [h]
theorem bel {w W w1 : World} (h1 : Below w.heap.size w W) (h2 : Below W.heap.size W w1) : Below w.heap.size w w1 := h1.trans (h2.mono h1.size)

/-- a tag: its text, and whether it is weak -/
abbrev Tg := ByteArray × Bool
/-- the cells of tags -/
def flat (l : List Tg) : List Value := l.flatMap fun x => [.string x.1, .bool x.2]
theorem flat_nil : flat [] = [] := rfl
theorem flat_cons (x : Tg) (l : List Tg) : flat (x :: l) = .string x.1 :: .bool x.2 :: flat l := rfl
theorem flat_append (l m : List Tg) : flat (l ++ m) = flat l ++ flat m := by simp [flat]
theorem flat_len : ∀ l : List Tg, (flat l).length = l.length * 2
  | [] => rfl
  | x :: l => by rw [flat_cons]; have := flat_len l; simp; omega
theorem flat_get0 : ∀ (l : List Tg) (j : Nat) (h : j < l.length), (flat l)[j * 2]? = some (.string l[j].1)
  | x :: l, 0, _ => rfl
  | x :: l, j + 1, h => by
    rw [flat_cons, show (j + 1) * 2 = j * 2 + 1 + 1 by omega]
    simpa using flat_get0 l j (by simpa using h)
theorem flat_get1 : ∀ (l : List Tg) (j : Nat) (h : j < l.length), (flat l)[j * 2 + 1]? = some (.bool l[j].2)
  | x :: l, 0, _ => rfl
  | x :: l, j + 1, h => by
    rw [flat_cons, show (j + 1) * 2 + 1 = j * 2 + 1 + 1 + 1 by omega]
    simpa using flat_get1 l j (by simpa using h)

/-- what a slice of tags reads as, below block B: address, list -/
def TgAt (w : World) (B : Nat) (A : Option Addr) (l : List Tg) : Prop :=
  0 < l.length → ∃ b o, A = some ⟨b, o, none⟩ ∧ b < B ∧ ∀ j (h : j < l.length), w.cell? ⟨b, o + j * 2, none⟩ = some (.string l[j].1) ∧ w.cell? ⟨b, o + j * 2 + 1, none⟩ = some (.bool l[j].2)
/-- a value that is such a slice -/
def IsTg (w : World) (v : Value) (l : List Tg) : Prop := ∃ A c, v = .slice A l.length c ∧ l.length ≤ c ∧ TgAt w w.heap.size A l

theorem TgAt.below {w w' : World} {B B' : Nat} {A : Option Addr} {l : List Tg} (h : TgAt w B A l) (hb : Below B w w') (hB : B ≤ B') : TgAt w' B' A l := fun hl => by
  obtain ⟨b, o, e, hlt, hc⟩ := h hl
  refine ⟨b, o, e, by omega, fun j hj => ?_⟩
  rw [hb.cell (p := ⟨b, o + j * 2, none⟩) hlt, hb.cell (p := ⟨b, o + j * 2 + 1, none⟩) hlt]
  exact hc j hj
theorem IsTg.below {w w' : World} {v : Value} {l : List Tg} (h : IsTg w v l) (hb : Below w.heap.size w w') : IsTg w' v l := by
  obtain ⟨A, c, e, hl, h⟩ := h
  exact ⟨A, c, e, hl, h.below hb hb.size⟩
theorem IsTg.nil (w : World) : IsTg w (.slice none 0 0) [] := ⟨none, 0, rfl, Nat.le_refl _, fun h => absurd h (by simp)⟩
theorem IsTg.split {w : World} {v : Value} {l : List Tg} (h : IsTg w v l) : ∃ (A : Option Addr) (n c : Nat), v = .slice A n c ∧ Hid (l.length = n) ∧ n ≤ c ∧ TgAt w w.heap.size A l := by
  obtain ⟨A, c, rfl, hl, hs⟩ := h
  exact ⟨A, _, c, rfl, rfl, hl, hs⟩
theorem IsTg.mk' {w : World} {A : Option Addr} {n c : Nat} {l : List Tg} (h1 : l.length = n) (h2 : n ≤ c) (h : TgAt w w.heap.size A l) : IsTg w (.slice A n c) l := by
  subst h1; exact ⟨A, c, rfl, h2, h⟩

/-- the call's own list of tags -/
abbrev OwnT (w : World) (base : Nat) (v : Value) (l : List Tg) : Prop := w.ownsRow base 27 2 v l.length (flat l)
theorem infoTg : (Tryz.prog.info? 27).map (fun i => (i.zero, i.size, i.bytes)) = some (some (.agg #[.string ⟨#[]⟩, .bool false]), 2, 24) := by kernel_rfl

theorem IsTg.own {w : World} {base : Nat} {v : Value} {l : List Tg} (h : w.ownsRow base 27 2 v l.length (flat l)) : IsTg w v l := by
  rcases Nat.eq_zero_or_pos l.length with h0 | h0
  · have hl : l = [] := List.eq_nil_of_length_eq_zero h0
    subst hl
    rcases h.2 with ⟨rfl, _⟩ | ⟨g, cap, cur, rfl, _⟩
    · exact IsTg.nil w
    · exact ⟨_, cap, rfl, Nat.zero_le _, fun h => absurd h (by simp)⟩
  · obtain ⟨g, cap, rfl, _, hlt⟩ := h.form h0
    have hcap : l.length ≤ cap := by
      rcases h.2 with ⟨e, _⟩ | ⟨g', cap', cur, e, _, _, hc, _⟩
      · cases e
      · injection e with _ _ e; omega
    refine ⟨_, cap, rfl, hcap, fun _ => ⟨g, 0, rfl, hlt, fun j hj => ?_⟩⟩
    rw [Nat.zero_add, h.cellAt (j * 2) (by omega), h.cellAt (j * 2 + 1) (by omega)]
    exact ⟨flat_get0 l j hj, flat_get1 l j hj⟩
theorem own_ne {w : World} {base e size n b : Nat} {v : Value} {xs : List Value} (h : w.ownsRow base e size v n xs) (hb : b < base) : v.ownBlock ≠ some b := by
  obtain ⟨_, ⟨rfl, _⟩ | ⟨g, cap, cur, rfl, hg, _⟩⟩ := h
  · simp [Value.ownBlock]
  · simp only [Value.ownBlock]; intro q; injection q with q; omega
/-- behind an append onto a row of the call's own -/
theorem below_app {w W W1 : World} {B : Nat} {o : Obj} {v : Value} {e size n : Nat} {xs : List Value} (hbel : Below B w W) (hB : B ≤ W.heap.size) (hown : W.ownsRow B e size v n xs) (hg : (W.alloc o).grownBy W1 v.ownBlock) : Below B w W1 := by
  refine (hbel.alloc hB o).grown hg (by simp; omega) ?_
  intro k hk
  obtain ⟨_, ⟨rfl, _⟩ | ⟨g, cap, cur, rfl, hge, _⟩⟩ := hown
  · simp [Value.ownBlock] at hk
  · simp only [Value.ownBlock] at hk; injection hk with hk; omega
theorem below_app_same {w W W1 : World} {B : Nat} {v : Value} {e size n : Nat} {xs : List Value} (hbel : Below B w W) (hB : B ≤ W.heap.size) (hown : W.ownsRow B e size v n xs) (hg : W.grownBy W1 v.ownBlock) : Below B w W1 := by
  refine hbel.grown hg (by omega) ?_
  intro k hk
  obtain ⟨_, ⟨rfl, _⟩ | ⟨g, cap, cur, rfl, hge, _⟩⟩ := hown
  · simp [Value.ownBlock] at hk
  · simp only [Value.ownBlock] at hk; injection hk with hk; omega
theorem Below.ownT {w W : World} {base e size n : Nat} {xs : List Value} {v : Value} (h : w.ownsRow base e size v n xs) (hb : Ext w W) : W.ownsRow base e size v n xs :=
  World.ownsRow.kept (row := none) h ⟨hb.os, hb.tape, hb.output, hb.size, fun k hk _ => hb.block k hk⟩ (by
    cases hv : v.ownBlock with
    | none => exact .inl rfl
    | some g => exact .inr (by simp))
theorem append_none_run (w : World) {base : Nat} {t ty e : TypeId} {i : TypeInfo} {size : Nat} (ht : Tryz.prog.underlying t = some (.slice e)) (hi : Tryz.prog.info? e = some i) (v : Value) (n : Nat) (xs : List Value) (hown : w.ownsRow base e size v n xs) (c : Nat) :
    (Builtin.append_ #[t, t] ty #[v, .slice none 0 c]).run Tryz.prog w = .ok v w := by
  obtain ⟨_, ⟨rfl, _⟩ | ⟨g, cap, cur, rfl, _, _, hnc, _⟩⟩ := hown
  · simp [Builtin.append_, run_underlying ht, sizeOf, typeInfo, hi, Builtin.lenOf, Builtin.firstCells]
  · simp [Builtin.append_, run_underlying ht, sizeOf, typeInfo, hi, Builtin.lenOf, Builtin.firstCells, hnc, storeCells]

/-- append(v, m...): v a list of the call's own, m any tags -/
theorem app_tags (w : World) {ops : Array Oper} {rest : List Oper} {o : Oper} {a : Act} {Q : Exit → Act → World → Prop} (hgd : o.guard = none) (s x : Operand)
    (ho : o.op = .call { callee := .builtin .append, args := #[s, x], argTypes := #[25, 25] })
    (base : Nat) (v : Value) (l m : List Tg) (hs : a.eval s = v) (hown : OwnT w base v l) (B : Nat) (A : Option Addr) (c : Nat) (hx : a.eval x = .slice A m.length c) (hr : TgAt w B A m)
    (hlen : l.length + m.length ≤ 8000000) (hbase : base ≤ w.heap.size)
    (h : ∀ v' w', OwnT w' base v' (l ++ m) → w.grownBy w' v.ownBlock → wpList Tryz.prog ops Q rest (a.put o.dst v') w') : wpList Tryz.prog ops Q (o :: rest) a w := by
  obtain ⟨i0, hi, hz0, hz1, hz2⟩ := info_parts infoTg
  cases A with
  | none =>
    have hm : m = [] := by
      rcases Nat.eq_zero_or_pos m.length with h0 | h0
      · exact List.eq_nil_of_length_eq_zero h0
      · obtain ⟨_, _, e, _⟩ := hr h0; cases e
    subst hm
    refine wpList_plain hgd fun K hK => ?_
    have hrun := append_none_run w (t := 25) (ty := o.type) Tryz.underlying25 hi v l.length (flat l) hown c
    unfold Oper.wp
    simp [execOp, ho, resolve, invoke, builtin, hs, hx, hrun, Result.andThen]
    exact hK _ _ (h v w (by simpa using hown) (World.grownBy.refl w _))
  | some ad =>
    refine wpList_append_own w hgd s x 25 ho base 27 i0 (.agg #[.string ⟨#[]⟩, .bool false]) 2 24 Tryz.underlying25 hi hz0 hz1 hz2 rfl (by omega) v l.length (flat l) hs hown ad m.length c (flat m) hx (flat_len m) ?_ ?_ (by unfold maxLen; omega) (by omega) hbase ?_
    · intro j u hj
      have hjl : j < m.length * 2 := by rw [← flat_len]; exact (List.getElem?_eq_some_iff.1 hj).1
      obtain ⟨b, off, e, hb, hc⟩ := hr (by omega)
      obtain rfl := Option.some.inj e
      obtain ⟨c0, c1⟩ := hc (j / 2) (by omega)
      rw [Addr.add_lit]
      rcases Nat.mod_two_eq_zero_or_one j with h0 | h0
      · have e : j / 2 * 2 = j := by omega
        rw [e] at c0
        have := flat_get0 m (j / 2) (by omega)
        rw [e, hj] at this
        rw [c0, ← this]
      · have e : j / 2 * 2 + 1 = j := by omega
        have := flat_get1 m (j / 2) (by omega)
        rw [e, hj] at this
        rw [Nat.add_assoc, e] at c1
        rw [c1, ← this]
    · intro u hu
      obtain ⟨p, _, hp⟩ := List.mem_flatMap.1 hu
      simp at hp
      rcases hp with rfl | rfl <;> rfl
    · intro v' w' h1 h2 _
      exact h v' w' (by unfold OwnT; rw [flat_append, List.length_append]; exact h1) h2
/-- append(v, X): one tag, in a block of its own -/
theorem app_tag (wr : World) {ops : Array Oper} {rest : List Oper} {o : Oper} {a : Act} {Q : Exit → Act → World → Prop} (hgd : o.guard = none) (s x : Operand)
    (ho : o.op = .call { callee := .builtin .append, args := #[s, x], argTypes := #[25, 25] })
    (base : Nat) (v : Value) (l : List Tg) (p : ByteArray) (q : Bool) (hs : a.eval s = v) (hown : OwnT wr base v l) (hx : a.eval x = .slice (some ⟨wr.heap.size, 0, none⟩) 1 1)
    (hlen : l.length ≤ 4000000) (hbase : base ≤ wr.heap.size)
    (h : ∀ v' w', OwnT w' base v' (l ++ [(p, q)]) → (wr.alloc (.cells #[.string p, .bool q] 27)).grownBy w' v.ownBlock → wpList Tryz.prog ops Q rest (a.put o.dst v') w') :
    wpList Tryz.prog ops Q (o :: rest) a (wr.alloc (.cells #[.string p, .bool q] 27)) := by
  refine app_tags _ hgd s x ho base v l [(p, q)] hs (hown.alloc _) (wr.heap.size + 1) (some ⟨wr.heap.size, 0, none⟩) 1 hx ?_ (by simp; omega) (by simp; omega) h
  intro _
  refine ⟨wr.heap.size, 0, rfl, by omega, fun j hj => ?_⟩
  have : j = 0 := by simpa using hj
  subst this
  simp
theorem OwnT.nil_at (w : World) (base : Nat) (hb : base ≤ w.heap.size) : OwnT (w.alloc (.cells #[] 27)) base (.slice (some ⟨w.heap.size, 0, none⟩) 0 0) [] :=
  World.ownsRow_made w #[] 0 hb (Nat.zero_le _) (by simp)
/-- append(v, X): one tag, in a block of its own, behind a block that has just been made -/
theorem app_tag_at (wr : World) (n : Nat) (hz : wr.heap.size = n) {ops : Array Oper} {rest : List Oper} {o : Oper} {a : Act} {Q : Exit → Act → World → Prop} (hgd : o.guard = none) (s x : Operand)
    (ho : o.op = .call { callee := .builtin .append, args := #[s, x], argTypes := #[25, 25] })
    (base : Nat) (v : Value) (l : List Tg) (p : ByteArray) (q : Bool) (hs : a.eval s = v) (hown : OwnT wr base v l) (hx : a.eval x = .slice (some ⟨n, 0, none⟩) 1 1)
    (hlen : l.length ≤ 4000000) (hbase : base ≤ wr.heap.size)
    (h : ∀ v' w', OwnT w' base v' (l ++ [(p, q)]) → (wr.alloc (.cells #[.string p, .bool q] 27)).grownBy w' v.ownBlock → wpList Tryz.prog ops Q rest (a.put o.dst v') w') :
    wpList Tryz.prog ops Q (o :: rest) a (wr.alloc (.cells #[.string p, .bool q] 27)) := by
  subst hz; exact app_tag wr hgd s x ho base v l p q hs hown hx hlen hbase h
theorem lt1' {w w1 : World} {o : Obj} (h : Below (w.alloc o).heap.size (w.alloc o) w1) : w.heap.size < w1.heap.size ∧ w.heap.size < w1.heap.size + 1 := by
  have := h.size; simp only [World.size_alloc] at this; omega
theorem lt_go4 {w w1 w2 : World} {o : Obj} (h : w.heap.size < w1.heap.size) (hb : Below (w1.alloc o).heap.size (w1.alloc o) w2) : w.heap.size < w2.heap.size ∧ w1.heap.size < w2.heap.size := by
  have := hb.size; simp only [World.size_alloc] at this; omega
end Go.Proofs.YtomcoacndppkcaaGreatDoor.T
