/-
  Mathematics of items: a value parted at its commas, but those within quotes.
-/
import Derived.Test.YtmlbinbhicdljaaDoorGM
namespace Go.Proofs.YtmlbinbhicdljaaDoor
open Go Go.RowKit

/-- within quotes; whether the next byte belongs to a backslash -/
def stepQ (q n : Bool) (x : UInt8) : Bool × Bool := if n then (q, false) else if q = true ∧ x = 92 then (true, true) else if x = 34 then (!q, false) else (q, false)
def cutI : Bool → Bool → List UInt8 → List UInt8 × List UInt8 × Bool
  | _, _, [] => ([], [], false)
  | q, n, x :: r => if x = 44 ∧ q = false then ([], r, true) else (x :: (cutI (stepQ q n x).1 (stepQ q n x).2 r).1, (cutI (stepQ q n x).1 (stepQ q n x).2 r).2.1, (cutI (stepQ q n x).1 (stepQ q n x).2 r).2.2)
def partsI : Bool → Bool → List UInt8 → List (List UInt8)
  | _, _, [] => [[]]
  | q, n, x :: r => if x = 44 ∧ q = false then [] :: partsI false false r else match partsI (stepQ q n x).1 (stepQ q n x).2 r with
    | [] => [[x]]
    | h :: t => (x :: h) :: t
theorem parts_cutI : ∀ (q n : Bool) (s : List UInt8), partsI q n s = (cutI q n s).1 :: (if (cutI q n s).2.2 = true then partsI false false (cutI q n s).2.1 else [])
  | _, _, [] => rfl
  | q, n, x :: r => by
    by_cases h : x = 44 ∧ q = false
    · simp [partsI, cutI, h]
    · simp only [partsI, cutI, if_neg h]
      rw [parts_cutI]
theorem cutI_len : ∀ (q n : Bool) (s : List UInt8), (cutI q n s).1.length ≤ s.length ∧ (cutI q n s).2.1.length ≤ s.length ∧ ((cutI q n s).2.2 = true → (cutI q n s).2.1.length < s.length)
  | _, _, [] => by simp [cutI]
  | q, n, x :: r => by
    by_cases h : x = 44 ∧ q = false
    · simp [cutI, h]
    · have := cutI_len (stepQ q n x).1 (stepQ q n x).2 r
      simp only [cutI, if_neg h, List.length_cons]
      exact ⟨by omega, by omega, fun k => by have := this.2.2 k; omega⟩
/-- what of a part is an item -/
def keepI (p : List UInt8) : List ByteArray := if trimB p = [] then [] else [⟨(trimB p).toArray⟩]
def itemsV (s : List UInt8) : List ByteArray := (partsI false false s).flatMap keepI
def itemsD (l : List ByteArray) : List ByteArray := l.flatMap fun v => itemsV v.data.toList
def restI (more : Bool) (s : List UInt8) : List ByteArray := if more = true then itemsV s else []
theorem restI_step (s : List UInt8) : restI true s = keepI (cutI false false s).1 ++ restI (cutI false false s).2.2 (cutI false false s).2.1 := by
  unfold restI itemsV
  rw [if_pos rfl, parts_cutI, List.flatMap_cons]
  congr 1
  split <;> rfl
theorem keepI_len (p : List UInt8) : (keepI p).length ≤ 1 := by unfold keepI; split <;> simp
theorem partsI_len : ∀ (q n : Bool) (s : List UInt8), (partsI q n s).length ≤ s.length + 1
  | _, _, [] => by simp [partsI]
  | q, n, x :: r => by
    have h1 := partsI_len false false r
    have h2 := partsI_len (stepQ q n x).1 (stepQ q n x).2 r
    by_cases h : x = 44 ∧ q = false
    · simp only [partsI, if_pos h, List.length_cons]; omega
    · simp only [partsI, if_neg h]
      cases hp : partsI (stepQ q n x).1 (stepQ q n x).2 r with
      | nil => simp
      | cons a t => rw [hp] at h2; simp only [List.length_cons] at h2 ⊢; omega
theorem flat_keep_len : ∀ l : List (List UInt8), (l.flatMap keepI).length ≤ l.length
  | [] => by simp
  | p :: l => by
    have h1 := keepI_len p
    have h2 := flat_keep_len l
    rw [List.flatMap_cons, List.length_append, List.length_cons]; omega
theorem itemsV_len (s : List UInt8) : (itemsV s).length ≤ s.length + 1 := Nat.le_trans (flat_keep_len _) (partsI_len _ _ _)
theorem itemsD_take {l : List ByteArray} {k : Nat} (h : k < l.length) : itemsD (l.take (k + 1)) = itemsD (l.take k) ++ itemsV l[k].data.toList := by
  unfold itemsD; rw [List.take_succ_eq_append_getElem h, List.flatMap_append]; simp
/-- how far a cutting is -/
def CutAt (s : ByteArray) (k : Nat) (q n : Bool) : Prop :=
  cutI false false s.data.toList = (s.data.toList.take k ++ (cutI q n (s.data.toList.drop k)).1, (cutI q n (s.data.toList.drop k)).2.1, (cutI q n (s.data.toList.drop k)).2.2)
theorem CutAt.zero (s : ByteArray) : CutAt s 0 false false := by unfold CutAt; simp
theorem CutAt.more {s : ByteArray} {k : Nat} {q n : Bool} (h : CutAt s k q n) (hk : k < s.size) (hx : ¬ (s[k] = 44 ∧ q = false)) : CutAt s (k + 1) (stepQ q n s[k]).1 (stepQ q n s[k]).2 := by
  unfold CutAt at h ⊢
  rw [drop_at4 s k hk] at h
  simp only [cutI, if_neg hx] at h
  rw [h, take_more s hk]; simp
theorem CutAt.cut {s : ByteArray} {k : Nat} {n : Bool} (h : CutAt s k false n) (hk : k < s.size) (hx : s[k] = 44) : cutI false false s.data.toList = ((s.extract 0 k).data.toList, (s.extract (k + 1) s.size).data.toList, true) := by
  unfold CutAt at h
  rw [drop_at4 s k hk] at h
  simp only [cutI, hx, and_self, if_true, List.append_nil] at h
  rw [h, ba_take, ba_drop]
theorem CutAt.fin {s : ByteArray} {q n : Bool} (h : CutAt s s.size q n) : cutI false false s.data.toList = (s.data.toList, [], false) := by
  unfold CutAt at h
  rw [List.drop_eq_nil_of_le (by rw [← Lib.size_eq]; exact Nat.le_refl _), List.take_of_length_le (by rw [← Lib.size_eq]; exact Nat.le_refl _)] at h
  simpa [cutI] using h
/-- how far the reference's parting is: what is parted, what stands of the part at hand -/
def PartAt (s : ByteArray) (k : Nat) (q n : Bool) (acc : List (List UInt8)) (cur : List UInt8) : Prop :=
  acc ++ (cur ++ (cutI q n (s.data.toList.drop k)).1) :: (if (cutI q n (s.data.toList.drop k)).2.2 = true then partsI false false (cutI q n (s.data.toList.drop k)).2.1 else []) = partsI false false s.data.toList
theorem PartAt.zero (s : ByteArray) : PartAt s 0 false false [] [] := by unfold PartAt; rw [List.drop_zero, List.nil_append, List.nil_append, ← parts_cutI]
theorem PartAt.more {s : ByteArray} {k : Nat} {q n : Bool} {acc : List (List UInt8)} {cur : List UInt8} (h : PartAt s k q n acc cur) (hk : k < s.size) (hx : ¬ (s[k] = 44 ∧ q = false)) : PartAt s (k + 1) (stepQ q n s[k]).1 (stepQ q n s[k]).2 acc (cur ++ [s[k]]) := by
  unfold PartAt at h ⊢
  rw [drop_at4 s k hk] at h
  simp only [cutI, if_neg hx] at h
  rw [← h]; simp
theorem PartAt.cut {s : ByteArray} {k : Nat} {n : Bool} {acc : List (List UInt8)} {cur : List UInt8} (h : PartAt s k false n acc cur) (hk : k < s.size) (hx : s[k] = 44) : PartAt s (k + 1) false false (acc ++ [cur]) [] := by
  unfold PartAt at h ⊢
  rw [drop_at4 s k hk] at h
  simp only [cutI, hx, and_self, if_true, List.append_nil] at h
  rw [← h, parts_cutI false false (s.data.toList.drop (k + 1))]
  simp
theorem PartAt.fin {s : ByteArray} {q n : Bool} {acc : List (List UInt8)} {cur : List UInt8} (h : PartAt s s.size q n acc cur) : acc ++ [cur] = partsI false false s.data.toList := by
  unfold PartAt at h
  rw [List.drop_eq_nil_of_le (by rw [← Lib.size_eq]; exact Nat.le_refl _)] at h
  simpa [cutI] using h
end Go.Proofs.YtmlbinbhicdljaaDoor
