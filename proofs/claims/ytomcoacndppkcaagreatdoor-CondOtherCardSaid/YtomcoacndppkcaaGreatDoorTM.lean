/-
  Mathematics of tags: which are right, how they are spelled, what a text is read as, how a list is parted.
-/
import Derived.Lib.IndexMore
import Derived.Lib.Join
import Derived.Lib.SlTrimSet
import Derived.Test.YtomcoacndppkcaaGreatDoorTA
namespace Go.Proofs.YtomcoacndppkcaaGreatDoor.T
open Go Go.RowKit

theorem ba_append (l m : List UInt8) : (⟨l.toArray⟩ ++ ⟨m.toArray⟩ : ByteArray) = ⟨(l ++ m).toArray⟩ := by
  apply ByteArray.ext; simp [ByteArray.data_append]
theorem ba_list (l : List UInt8) : (⟨l.toArray⟩ : ByteArray).data.toList = l := rfl
theorem ba_size (l : List UInt8) : (⟨l.toArray⟩ : ByteArray).size = l.length := by rw [Lib.size_eq, ba_list]
theorem ba_empty (l : List UInt8) : (⟨l.toArray⟩ : ByteArray).toList.isEmpty = decide (l = []) := by
  rw [ByteArray.toList_eq, ba_list]; cases l <;> simp

theorem trimS_len (l cs : List UInt8) : (Lib.trimS l cs).length ≤ l.length := by
  unfold Lib.trimS Lib.trimLeftS Lib.trimRightS
  have h1 := List.dropWhile_sublist (l := (l.reverse.dropWhile (cs.contains ·)).reverse) (p := fun x => cs.contains x)
  have h2 := List.dropWhile_sublist (l := l.reverse) (p := fun x => cs.contains x)
  have h3 := h1.length_le
  have h4 := h2.length_le
  simp only [List.length_reverse] at h3 h4
  omega

theorem drop_at4 (s : ByteArray) (k : Nat) (h : k < s.size) : s.data.toList.drop k = s[k] :: s.data.toList.drop (k + 1) := by
  rw [List.drop_eq_getElem_cons (by rw [← Lib.size_eq]; exact h)]
  congr 1

abbrev isB (x : UInt8) : Bool := ([32, 9] : List UInt8).contains x
abbrev cutL (l : List UInt8) : List UInt8 := l.dropWhile isB
abbrev cutR (l : List UInt8) : List UInt8 := (l.reverse.dropWhile isB).reverse
theorem isB_iff (x : UInt8) : isB x = true ↔ (x.toNat : Int) = 32 ∨ (x.toNat : Int) = 9 := by
  have h32 : x = 32 ↔ (x.toNat : Int) = 32 := by
    rw [← UInt8.toNat_inj]; show x.toNat = 32 ↔ _; omega
  have h9 : x = 9 ↔ (x.toNat : Int) = 9 := by
    rw [← UInt8.toNat_inj]; show x.toNat = 9 ↔ _; omega
  rw [← h32, ← h9]
  simp [isB]
theorem cutR_cons (x : UInt8) (l : List UInt8) : cutR (x :: l) = if cutR l = [] then (if isB x = true then [] else [x]) else x :: cutR l := by
  unfold cutR
  rw [List.reverse_cons, List.dropWhile_append]
  by_cases h : l.reverse.dropWhile isB = []
  · rw [h]
    rw [if_pos (by simp), if_pos (by simp), List.dropWhile_cons]
    by_cases hx : isB x = true
    · rw [if_pos hx, if_pos hx]; rfl
    · rw [if_neg hx, if_neg hx]; rfl
  · rw [if_neg (by simpa using h), if_neg (by simpa using h)]
    simp
theorem cut_comm : ∀ l : List UInt8, cutL (cutR l) = cutR (cutL l)
  | [] => rfl
  | x :: l => by
    have ih := cut_comm l
    rw [cutR_cons]
    by_cases hx : isB x = true
    · have e : cutL (x :: l) = cutL l := by unfold cutL; rw [List.dropWhile_cons, if_pos hx]
      rw [e, ← ih]
      by_cases h : cutR l = []
      · rw [if_pos h, if_pos hx, h]
      · rw [if_neg h]
        unfold cutL
        rw [List.dropWhile_cons, if_pos hx]
    · have e : cutL (x :: l) = x :: l := by unfold cutL; rw [List.dropWhile_cons, if_neg hx]
      rw [e, cutR_cons]
      by_cases h : cutR l = []
      · rw [if_pos h, if_neg hx]
        unfold cutL
        rw [List.dropWhile_cons, if_neg hx]
      · rw [if_neg h]
        unfold cutL
        rw [List.dropWhile_cons, if_neg hx]
theorem trim_two (l : List UInt8) : Lib.trimS l [32, 9] = cutR (cutL l) := by
  first
    | rfl
    | (rw [← cut_comm]; rfl)
theorem cutL_yes {x : UInt8} (h : isB x = true) (r : List UInt8) : cutL (x :: r) = cutL r := by
  unfold cutL; rw [List.dropWhile_cons, if_pos h]
theorem cutL_no {x : UInt8} (h : ¬ isB x = true) (r : List UInt8) : cutL (x :: r) = x :: r := by
  unfold cutL; rw [List.dropWhile_cons, if_neg h]
theorem cutR_yes {x : UInt8} (h : isB x = true) (r : List UInt8) : cutR (r ++ [x]) = cutR r := by
  unfold cutR; rw [List.reverse_append, List.reverse_singleton, List.singleton_append, List.dropWhile_cons, if_pos h]
theorem cutR_no {x : UInt8} (h : ¬ isB x = true) (r : List UInt8) : cutR (r ++ [x]) = r ++ [x] := by
  unfold cutR; rw [List.reverse_append, List.reverse_singleton, List.singleton_append, List.dropWhile_cons, if_neg h]; simp
theorem ba_hd (b : ByteArray) (h : 0 < b.size) : b.data.toList = b[0] :: (b.extract 1 b.size).data.toList := by
  have e2 : (b.extract 1 b.size).data.toList = b.data.toList.drop 1 := by
    rw [ByteArray.data_extract]; show (b.data.extract 1 b.data.size).toList = _; simp; exact List.take_of_length_le (by rw [List.length_tail, ← Lib.size_eq]; omega)
  rw [e2]
  have := drop_at4 b 0 h
  simpa using this
theorem ba_tl (b : ByteArray) (n : Nat) (h : b.size = n + 1) : b.data.toList = (b.extract 0 n).data.toList ++ [b[n]'(by omega)] := by
  have e1 : (b.extract 0 n).data.toList = b.data.toList.take n := by
    rw [ByteArray.data_extract]; simp
  rw [e1]
  have h2 := List.take_append_drop n b.data.toList
  rw [drop_at4 b n (by omega), List.drop_eq_nil_of_le (by rw [← Lib.size_eq]; omega)] at h2
  exact h2.symm
theorem ba_eq {b : ByteArray} {l : List UInt8} (h : b.data.toList = l) : b = ⟨l.toArray⟩ := by
  cases b with | mk d => subst h; rfl
theorem beqi_t {a b : Int} (h : a = b) : (a == b) = true := by simpa using h
theorem beqi_f {a b : Int} (h : a ≠ b) : (a == b) = false := by simpa using h


/-- a byte that a tag may have; a text that a right tag has -/
def seen (x : UInt8) : Bool := decide (33 ≤ x.toNat) && decide (x.toNat ≤ 126) && !decide (x.toNat = 34)
def okT (l : List UInt8) : Bool := decide (1 ≤ l.length) && decide (l.length ≤ 100) && l.all seen
abbrev okS (s : ByteArray) : Bool := okT s.data.toList
theorem okT_iff {l : List UInt8} : okT l = true ↔ 1 ≤ l.length ∧ l.length ≤ 100 ∧ ∀ x ∈ l, seen x = true := by
  unfold okT; simp [and_assoc]
theorem seen_iff {x : UInt8} : seen x = true ↔ 33 ≤ x.toNat ∧ x.toNat ≤ 126 ∧ x.toNat ≠ 34 := by
  unfold seen; simp [and_assoc]

/-- two are one, loosely, strictly; one of a list is -/
def eqB (s t : ByteArray) : Bool := s.toList == t.toList
theorem eqB_comm (s t : ByteArray) : eqB s t = eqB t s := by
  unfold eqB
  rw [Bool.eq_iff_iff]; simp only [beq_iff_eq]; exact ⟨fun h => h.symm, fun h => h.symm⟩
theorem eqB_iff {s t : ByteArray} : eqB s t = true ↔ s = t := by
  unfold eqB
  rw [beq_iff_eq, ByteArray.toList_eq, ByteArray.toList_eq]
  exact ⟨fun h => ByteArray.ext (Array.toList_inj.1 h), fun h => by rw [h]⟩
def wkD (a b : ByteArray) : Bool := okS a && okS b && eqB a b
def stD (a b : Tg) : Bool := wkD a.1 b.1 && !a.2 && !b.2
def oneD (strong : Bool) (x t : Tg) : Bool := if strong then stD x t else wkD x.1 t.1
def inD (l : List Tg) (t : Tg) (strong : Bool) : Bool := l.any fun x => oneD strong x t
theorem inD_take {l : List Tg} {t : Tg} {st : Bool} {k : Nat} (h : k < l.length) : inD (l.take (k + 1)) t st = (inD (l.take k) t st || oneD st l[k] t) := by
  unfold inD; rw [List.take_succ_eq_append_getElem h, List.any_append, List.any_cons, List.any_nil, Bool.or_false]
theorem inD_at {l : List Tg} {t : Tg} {st : Bool} {k : Nat} (h : k < l.length) (hk : oneD st l[k] t = true) : inD l t st = true := by
  unfold inD; rw [List.any_eq_true]; exact ⟨l[k], List.getElem_mem h, hk⟩
theorem wkD_comm (a b : ByteArray) : wkD a b = wkD b a := by unfold wkD; rw [eqB_comm, Bool.and_comm (okS a)]
theorem stD_comm (a b : Tg) : stD a b = stD b a := by
  unfold stD; rw [wkD_comm]; cases wkD b.1 a.1 <;> cases a.2 <;> cases b.2 <;> rfl
theorem stD_same {a b : Tg} (h : stD a b = true) : wkD a.1 b.1 = true ∧ a = b := by
  obtain ⟨s, k⟩ := a
  obtain ⟨t, m⟩ := b
  unfold stD at h
  simp only [Bool.and_eq_true, Bool.not_eq_true'] at h
  obtain ⟨⟨h1, h2⟩, h3⟩ := h
  refine ⟨h1, ?_⟩
  subst h2; subst h3
  unfold wkD at h1
  simp only [Bool.and_eq_true] at h1
  rw [eqB_iff.1 h1.2]

/-- a tag's spelling -/
def spellL (t : Tg) : List UInt8 := if okS t.1 then (if t.2 then [87, 47, 34] else [34]) ++ t.1.data.toList ++ [34] else []
/-- quotes about what is between them -/
def quL (l : List UInt8) : Bool := decide (2 ≤ l.length) && (l.head? == some 34) && (l.getLast? == some 34)
def midL (l : List UInt8) : List UInt8 := (l.drop 1).dropLast
def readL (l : List UInt8) : Tg × Bool :=
  if quL (Lib.trimPrefix l [87, 47]) = true ∧ okT (midL (Lib.trimPrefix l [87, 47])) = true then ((⟨(midL (Lib.trimPrefix l [87, 47])).toArray⟩, Lib.hasPrefix l [87, 47]), true) else ((⟨#[]⟩, false), false)
abbrev trimB (l : List UInt8) : List UInt8 := Lib.trimS l [32, 9]

/-- up to a comma that isn't within quotes; behind it -/
def flipQ (q : Bool) (x : UInt8) : Bool := if x = 34 then !q else q
def cutP : Bool → List UInt8 → List UInt8 × List UInt8 × Bool
  | _, [] => ([], [], false)
  | q, x :: r => if x = 44 ∧ q = false then ([], r, true) else (x :: (cutP (flipQ q x) r).1, (cutP (flipQ q x) r).2.1, (cutP (flipQ q x) r).2.2)
def parts : Bool → List UInt8 → List (List UInt8)
  | _, [] => [[]]
  | q, x :: r => if x = 44 ∧ q = false then [] :: parts false r else match parts (flipQ q x) r with
    | [] => [[x]]
    | h :: t => (x :: h) :: t
theorem parts_cut : ∀ (q : Bool) (s : List UInt8), parts q s = (cutP q s).1 :: (if (cutP q s).2.2 = true then parts false (cutP q s).2.1 else [])
  | _, [] => rfl
  | q, x :: r => by
    by_cases h : x = 44 ∧ q = false
    · simp [parts, cutP, h]
    · simp only [parts, cutP, if_neg h]
      rw [parts_cut (flipQ q x) r]
theorem cutP_len : ∀ (q : Bool) (s : List UInt8), (cutP q s).1.length ≤ s.length ∧ (cutP q s).2.1.length ≤ s.length ∧ ((cutP q s).2.2 = true → (cutP q s).2.1.length < s.length)
  | _, [] => by simp [cutP]
  | q, x :: r => by
    by_cases h : x = 44 ∧ q = false
    · simp [cutP, h]
    · have := cutP_len (flipQ q x) r
      simp only [cutP, if_neg h, List.length_cons]
      exact ⟨by omega, by omega, fun k => by have := this.2.2 k; omega⟩
theorem cutP_end : ∀ (q : Bool) (s : List UInt8), (cutP q s).2.2 = false → (cutP q s).1 = s ∧ (cutP q s).2.1 = []
  | _, [], _ => by simp [cutP]
  | q, x :: r, h => by
    by_cases hx : x = 44 ∧ q = false
    · simp [cutP, hx] at h
    · simp only [cutP, if_neg hx] at h ⊢
      obtain ⟨h1, h2⟩ := cutP_end (flipQ q x) r h
      exact ⟨by rw [h1], h2⟩
def endS : Bool → List UInt8 → Bool
  | q, [] => q
  | q, x :: r => endS (flipQ q x) r
theorem cutP_append (r : List UInt8) : ∀ (q : Bool) (s : List UInt8), cutP q (s ++ r) = if (cutP q s).2.2 = true then ((cutP q s).1, (cutP q s).2.1 ++ r, true) else (s ++ (cutP (endS q s) r).1, (cutP (endS q s) r).2.1, (cutP (endS q s) r).2.2)
  | q, [] => by simp [cutP, endS]
  | q, x :: s => by
    by_cases hx : x = 44 ∧ q = false
    · simp [cutP, hx]
    · rw [List.cons_append]
      simp only [cutP, if_neg hx, endS]
      rw [cutP_append r (flipQ q x) s]
      split <;> simp

/-- a part more -/
def stepT (p : List UInt8) (acc : List Tg) : Option (List Tg) :=
  if trimB p = [] then some acc
  else if (readL (trimB p)).2 = true then some (if acc.length ≤ 64 then acc ++ [(readL (trimB p)).1] else acc)
  else none
def goP : List (List UInt8) → List Tg → Option (List Tg)
  | [], acc => some acc
  | p :: ps, acc => (stepT p acc).bind (goP ps)
/-- what is left to read -/
def restP (more : Bool) (s : List UInt8) (acc : List Tg) : Option (List Tg) := if more = true then goP (parts false s) acc else some acc
theorem restP_step (s : List UInt8) (acc : List Tg) : restP true s acc = (stepT (cutP false s).1 acc).bind fun a => restP (cutP false s).2.2 (cutP false s).2.1 a := by
  unfold restP
  rw [if_pos rfl, parts_cut, goP]
  congr 1
  funext a
  split
  · rfl
  · rfl
theorem stepT_len {p : List UInt8} {acc a : List Tg} (h : acc.length ≤ 65) (e : stepT p acc = some a) : a.length ≤ 65 := by
  unfold stepT at e
  split at e
  · cases e; exact h
  · split at e
    · cases e
      split
      · simp; omega
      · exact h
    · cases e
def endP : Option (List Tg) → List Tg × Int
  | none => ([], 2)
  | some l => if l.length = 0 then ([], 2) else if 64 < l.length then ([], 4) else (l, 0)
/-- what a list is read as: the tags, whether it is any, what is wrong -/
def listD (s : List UInt8) : List Tg × Bool × Int :=
  if trimB s = [42] then ([], true, 0) else ((endP (restP true s [])).1, false, (endP (restP true s [])).2)
theorem endP_len (o : Option (List Tg)) : (endP o).1.length ≤ 64 := by
  cases o with
  | none => simp [endP]
  | some l =>
    simp only [endP]
    split
    · simp
    · split
      · simp
      · show l.length ≤ 64; omega
theorem listD_len (s : List UInt8) : (listD s).1.length ≤ 64 := by
  unfold listD
  split
  · simp
  · exact endP_len _

/-- a list's text -/
def textsD (l : List Tg) (any : Bool) : List UInt8 :=
  if any then [42] else if l.all (fun t => okS t.1) then Lib.join (l.map spellL) [44, 32] else []
/-- how great a list is -/
def gsum (l : List Tg) : Nat := (l.map fun t => 1 + t.1.size).sum
def greatD (l : List Tg) : Bool := decide (400 < gsum l)
end Go.Proofs.YtomcoacndppkcaaGreatDoor.T
