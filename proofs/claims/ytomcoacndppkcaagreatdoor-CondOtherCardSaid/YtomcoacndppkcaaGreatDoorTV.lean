/-
  The reference's List of every text.
-/
import Derived.Test.YtomcoacndppkcaaGreatDoorTN
namespace Go.Proofs.YtomcoacndppkcaaGreatDoor.T
open Go Go.RowKit

def stepQ (p : List UInt8) (acc : List Tg) : Option (List Tg) :=
  if trimB p = [] then some acc
  else if (readL (trimB p)).2 = true then some (acc ++ [(readL (trimB p)).1]) else none
def goQ : List (List UInt8) → List Tg → Option (List Tg)
  | [], acc => some acc
  | p :: ps, acc => (stepQ p acc).bind (goQ ps)
theorem stepQ_P (p : List UInt8) (acc : List Tg) : stepT p (acc.take 65) = (stepQ p acc).map (·.take 65) := by
  unfold stepT stepQ
  by_cases h : trimB p = []
  · rw [if_pos h, if_pos h]; rfl
  · rw [if_neg h, if_neg h]
    by_cases h3 : (readL (trimB p)).2 = true
    · rw [if_pos h3, if_pos h3]
      simp only [Option.map_some, Option.some.injEq]
      by_cases hl : acc.length ≤ 64
      · rw [List.take_of_length_le (by omega), if_pos hl, List.take_of_length_le (by simp; omega)]
      · rw [if_neg (by rw [List.length_take]; omega), List.take_append_of_le_length (by omega)]
    · rw [if_neg h3, if_neg h3]; rfl
theorem goQ_P : ∀ (ps : List (List UInt8)) (acc : List Tg), goP ps (acc.take 65) = (goQ ps acc).map (·.take 65)
  | [], _ => rfl
  | p :: ps, acc => by
    unfold goP goQ
    rw [stepQ_P]
    cases stepQ p acc with
    | none => rfl
    | some a => exact goQ_P ps a
theorem endP_take (o : Option (List Tg)) : endP (o.map (·.take 65)) = endP o := by
  cases o with
  | none => rfl
  | some l =>
    simp only [Option.map_some, endP, List.length_take]
    by_cases h0 : l.length = 0
    · rw [if_pos (by omega), if_pos h0]
    · rw [if_neg (by omega), if_neg h0]
      by_cases h1 : 64 < l.length
      · rw [if_pos (by omega), if_pos h1]
      · rw [if_neg (by omega), if_neg h1, List.take_of_length_le (by omega)]
theorem endQ (s : List UInt8) : endP (restP true s []) = endP (goQ (parts false s) []) := by
  unfold restP
  rw [if_pos rfl, ← endP_take (goQ _ _), ← goQ_P]; rfl

/-- bytes ahead of the first piece -/
def glue (u : List UInt8) : List (List UInt8) → List (List UInt8)
  | [] => [u]
  | h :: t => (u ++ h) :: t
theorem glue_nil (s : List UInt8) : glue [] (parts false s) = parts false s := by
  rw [parts_cut]; rfl
theorem glue_more (u : List UInt8) (q : Bool) {x : UInt8} (h : ¬ (x = 44 ∧ q = false)) (r : List UInt8) : glue u (parts q (x :: r)) = glue (u ++ [x]) (parts (flipQ q x) r) := by
  conv => lhs; unfold parts
  rw [if_neg h]
  cases parts (flipQ q x) r with
  | nil => rfl
  | cons a t => simp [glue]
theorem glue_comma (u r : List UInt8) : glue u (parts false (44 :: r)) = u :: parts false r := by
  conv => lhs; unfold parts
  rw [if_pos ⟨rfl, rfl⟩]
  simp [glue]
theorem glue_end (u : List UInt8) (q : Bool) : glue u (parts q []) = [u] := by
  simp [glue, parts]

/-- the call's own list of texts -/
abbrev OwnW (w : World) (base : Nat) (v : Value) (l : List ByteArray) : Prop := w.ownsRow base 9 1 v l.length (l.map Value.string)
theorem OwnW.nil_at (w : World) (base : Nat) (hb : base ≤ w.heap.size) : OwnW (w.alloc (.cells #[] 9)) base (.slice (some ⟨w.heap.size, 0, none⟩) 0 0) [] :=
  World.ownsRow_made w #[] 0 hb (Nat.zero_le _) (by simp)
theorem infoSt : (Tryz.prog.info? 9).map (fun i => (i.zero, i.size, i.bytes)) = some (some (.string ⟨#[]⟩), 1, 16) := by kernel_rfl
/-- append(v, X): one text, in a block of its own -/
theorem app_str (wr : World) (n : Nat) (hz : wr.heap.size = n) {ops : Array Oper} {rest : List Oper} {o : Oper} {a : Act} {Q : Exit → Act → World → Prop} (hgd : o.guard = none) (s x : Operand)
    (ho : o.op = .call { callee := .builtin .append, args := #[s, x], argTypes := #[43, 43] })
    (base : Nat) (v : Value) (l : List ByteArray) (p : ByteArray) (hs : a.eval s = v) (hown : OwnW wr base v l) (hx : a.eval x = .slice (some ⟨n, 0, none⟩) 1 1)
    (hlen : l.length ≤ 4000000) (hbase : base ≤ wr.heap.size)
    (h : ∀ v' w', OwnW w' base v' (l ++ [p]) → (wr.alloc (.cells #[.string p] 9)).grownBy w' v.ownBlock → wpList Tryz.prog ops Q rest (a.put o.dst v') w') :
    wpList Tryz.prog ops Q (o :: rest) a (wr.alloc (.cells #[.string p] 9)) := by
  subst hz
  obtain ⟨i0, hi, hz0, hz1, hz2⟩ := info_parts infoSt
  refine wpList_append_own _ hgd s x 43 ho base 9 i0 (.string ⟨#[]⟩) 1 16 Tryz.underlying43 hi hz0 hz1 hz2 rfl (by omega) v l.length (l.map Value.string) hs (hown.alloc _) ⟨wr.heap.size, 0, none⟩ 1 1 [.string p] hx (by simp) ?_ ?_ (by unfold maxLen; omega) (by omega) (by simp; omega) ?_
  · intro j u hj
    have : j = 0 := by have := (List.getElem?_eq_some_iff.1 hj).1; simpa using this
    subst this
    simp at hj
    subst hj
    rw [Addr.add_lit]
    simp
  · intro u hu
    simp at hu
    subst hu
    rfl
  · intro v' w' h1 h2 _
    exact h v' w' (by unfold OwnW; simpa using h1) h2

/-- where the reference stands in a text -/
def AtB (s : ByteArray) (ps : List ByteArray) (nb : ByteArray) (q : Bool) (k : Nat) : Prop :=
  parts false s.data.toList = ps.map (·.data.toList) ++ glue nb.data.toList (parts q (s.data.toList.drop k))
theorem AtB.more {s : ByteArray} {ps : List ByteArray} {nb : ByteArray} {q : Bool} {k : Nat} (h : AtB s ps nb q k) (hk : k < s.size) (hx : ¬ (s[k] = 44 ∧ q = false)) : AtB s ps (nb ++ s.extract k (k + 1)) (flipQ q s[k]) (k + 1) := by
  unfold AtB at h ⊢
  rw [h, drop_at4 s k hk, glue_more _ _ hx]
  have e : (nb ++ s.extract k (k + 1)).data.toList = nb.data.toList ++ [s[k]] := by
    have e2 : (s.extract k (k + 1)).data.toList = [s[k]] := by
      rw [ByteArray.data_extract, Array.toList_extract]
      show (List.take (k + 1 - k) (s.data.toList.drop k)) = _
      rw [drop_at4 s k hk, show k + 1 - k = 1 by omega]; rfl
    rw [ByteArray.data_append, Array.toList_append, e2]
  rw [e]
theorem AtB.cut {s : ByteArray} {ps : List ByteArray} {nb : ByteArray} {k : Nat} (h : AtB s ps nb false k) (hk : k < s.size) (hx : s[k] = 44) : AtB s (ps ++ [nb]) ⟨#[]⟩ false (k + 1) := by
  unfold AtB at h ⊢
  rw [h, drop_at4 s k hk, hx, glue_comma, List.map_append, List.append_assoc]
  congr 1
  show _ = [nb.data.toList] ++ glue [] _
  rw [glue_nil]; rfl
theorem AtB.fin {s : ByteArray} {ps : List ByteArray} {nb : ByteArray} {q : Bool} (h : AtB s ps nb q s.size) : parts false s.data.toList = (ps ++ [nb]).map (·.data.toList) := by
  unfold AtB at h
  rw [h, List.drop_eq_nil_of_le (by rw [← Lib.size_eq]; exact Nat.le_refl _), glue_end, List.map_append]; rfl
end Go.Proofs.YtomcoacndppkcaaGreatDoor.T
