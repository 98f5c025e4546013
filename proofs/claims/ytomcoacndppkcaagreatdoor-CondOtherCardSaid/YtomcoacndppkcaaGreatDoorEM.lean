/-
  Mathematics of header fields: names alike, what is found, set and left out, which fields are right, blocks and what a text is read as, items of values.
-/
import Derived.Lib.IndexMore
import Derived.Lib.SlTrimSet
import Derived.Test.YtomcoacndppkcaaGreatDoorEA
namespace Go.Proofs.YtomcoacndppkcaaGreatDoor.F
open Go Go.RowKit

theorem ba_append (l m : List UInt8) : (⟨l.toArray⟩ ++ ⟨m.toArray⟩ : ByteArray) = ⟨(l ++ m).toArray⟩ := by
  apply ByteArray.ext; simp [ByteArray.data_append]
theorem ba_list (l : List UInt8) : (⟨l.toArray⟩ : ByteArray).data.toList = l := rfl
theorem ba_size (l : List UInt8) : (⟨l.toArray⟩ : ByteArray).size = l.length := by rw [Lib.size_eq, ba_list]
theorem ba_empty (l : List UInt8) : (⟨l.toArray⟩ : ByteArray).toList.isEmpty = decide (l = []) := by
  rw [ByteArray.toList_eq, ba_list]; cases l <;> simp

theorem trimS_len (l cs : List UInt8) : (Lib.trimS l cs).length ≤ l.length := by
  unfold Lib.trimS Lib.trimLeftS Lib.trimRightS
  have h1 := List.dropWhile_sublist (l := (l.reverse.dropWhile (cs.contains ·)).reverse) (p := fun x => cs.contains x)
  have h2 := List.dropWhile_sublist (l := l.reverse) (p := fun x => cs.contains x)
  have h3 := h1.length_le
  have h4 := h2.length_le
  simp only [List.length_reverse] at h3 h4
  omega

theorem drop_at4 (s : ByteArray) (k : Nat) (h : k < s.size) : s.data.toList.drop k = s[k] :: s.data.toList.drop (k + 1) := by
  rw [List.drop_eq_getElem_cons (by rw [← Lib.size_eq]; exact h)]
  congr 1

abbrev isB (x : UInt8) : Bool := ([32, 9] : List UInt8).contains x
abbrev cutL (l : List UInt8) : List UInt8 := l.dropWhile isB
abbrev cutR (l : List UInt8) : List UInt8 := (l.reverse.dropWhile isB).reverse
theorem isB_iff (x : UInt8) : isB x = true ↔ (x.toNat : Int) = 32 ∨ (x.toNat : Int) = 9 := by
  have h32 : x = 32 ↔ (x.toNat : Int) = 32 := by
    rw [← UInt8.toNat_inj]; show x.toNat = 32 ↔ _; omega
  have h9 : x = 9 ↔ (x.toNat : Int) = 9 := by
    rw [← UInt8.toNat_inj]; show x.toNat = 9 ↔ _; omega
  rw [← h32, ← h9]
  simp [isB]
theorem cutR_cons (x : UInt8) (l : List UInt8) : cutR (x :: l) = if cutR l = [] then (if isB x = true then [] else [x]) else x :: cutR l := by
  unfold cutR
  rw [List.reverse_cons, List.dropWhile_append]
  by_cases h : l.reverse.dropWhile isB = []
  · rw [h]
    rw [if_pos (by simp), if_pos (by simp), List.dropWhile_cons]
    by_cases hx : isB x = true
    · rw [if_pos hx, if_pos hx]; rfl
    · rw [if_neg hx, if_neg hx]; rfl
  · rw [if_neg (by simpa using h), if_neg (by simpa using h)]
    simp
theorem cut_comm : ∀ l : List UInt8, cutL (cutR l) = cutR (cutL l)
  | [] => rfl
  | x :: l => by
    have ih := cut_comm l
    rw [cutR_cons]
    by_cases hx : isB x = true
    · have e : cutL (x :: l) = cutL l := by unfold cutL; rw [List.dropWhile_cons, if_pos hx]
      rw [e, ← ih]
      by_cases h : cutR l = []
      · rw [if_pos h, if_pos hx, h]
      · rw [if_neg h]
        unfold cutL
        rw [List.dropWhile_cons, if_pos hx]
    · have e : cutL (x :: l) = x :: l := by unfold cutL; rw [List.dropWhile_cons, if_neg hx]
      rw [e, cutR_cons]
      by_cases h : cutR l = []
      · rw [if_pos h, if_neg hx]
        unfold cutL
        rw [List.dropWhile_cons, if_neg hx]
      · rw [if_neg h]
        unfold cutL
        rw [List.dropWhile_cons, if_neg hx]
theorem trim_two (l : List UInt8) : Lib.trimS l [32, 9] = cutR (cutL l) := by
  first
    | rfl
    | (rw [← cut_comm]; rfl)
theorem cutL_yes {x : UInt8} (h : isB x = true) (r : List UInt8) : cutL (x :: r) = cutL r := by
  unfold cutL; rw [List.dropWhile_cons, if_pos h]
theorem cutL_no {x : UInt8} (h : ¬ isB x = true) (r : List UInt8) : cutL (x :: r) = x :: r := by
  unfold cutL; rw [List.dropWhile_cons, if_neg h]
theorem cutR_yes {x : UInt8} (h : isB x = true) (r : List UInt8) : cutR (r ++ [x]) = cutR r := by
  unfold cutR; rw [List.reverse_append, List.reverse_singleton, List.singleton_append, List.dropWhile_cons, if_pos h]
theorem cutR_no {x : UInt8} (h : ¬ isB x = true) (r : List UInt8) : cutR (r ++ [x]) = r ++ [x] := by
  unfold cutR; rw [List.reverse_append, List.reverse_singleton, List.singleton_append, List.dropWhile_cons, if_neg h]; simp
theorem ba_hd (b : ByteArray) (h : 0 < b.size) : b.data.toList = b[0] :: (b.extract 1 b.size).data.toList := by
  have e2 : (b.extract 1 b.size).data.toList = b.data.toList.drop 1 := by
    rw [ByteArray.data_extract]; show (b.data.extract 1 b.data.size).toList = _; simp; exact List.take_of_length_le (by rw [List.length_tail, ← Lib.size_eq]; omega)
  rw [e2]
  have := drop_at4 b 0 h
  simpa using this
theorem ba_tl (b : ByteArray) (n : Nat) (h : b.size = n + 1) : b.data.toList = (b.extract 0 n).data.toList ++ [b[n]'(by omega)] := by
  have e1 : (b.extract 0 n).data.toList = b.data.toList.take n := by
    rw [ByteArray.data_extract]; simp
  rw [e1]
  have h2 := List.take_append_drop n b.data.toList
  rw [drop_at4 b n (by omega), List.drop_eq_nil_of_le (by rw [← Lib.size_eq]; omega)] at h2
  exact h2.symm
theorem ba_eq {b : ByteArray} {l : List UInt8} (h : b.data.toList = l) : b = ⟨l.toArray⟩ := by
  cases b with | mk d => subst h; rfl
theorem beqi_t {a b : Int} (h : a = b) : (a == b) = true := by simpa using h
theorem beqi_f {a b : Int} (h : a ≠ b) : (a == b) = false := by simpa using h



def eqB (s t : ByteArray) : Bool := s.toList == t.toList
theorem eqB_iff {s t : ByteArray} : eqB s t = true ↔ s = t := by
  unfold eqB
  rw [beq_iff_eq, ByteArray.toList_eq, ByteArray.toList_eq]
  exact ⟨fun h => ByteArray.ext (Array.toList_inj.1 h), fun h => by rw [h]⟩
theorem eqB_f {s t : ByteArray} (h : s ≠ t) : (s.toList == t.toList) = false := by
  cases e : s.toList == t.toList with
  | false => rfl
  | true => exact absurd (eqB_iff.1 e) h
theorem eqB_t {s t : ByteArray} (h : s = t) : (s.toList == t.toList) = true := eqB_iff.2 h
theorem ba_eta (s : ByteArray) : (⟨s.data.toList.toArray⟩ : ByteArray) = s := (ba_eq rfl).symm
theorem ba_inj {s t : ByteArray} (h : s.data.toList = t.data.toList) : s = t := by rw [← ba_eta s, ← ba_eta t, h]
theorem u8_iff (x : UInt8) (n : Nat) (hn : n < 256) : x = UInt8.ofNat n ↔ x.toNat = n := by
  rw [← UInt8.toNat_inj]
  have : (UInt8.ofNat n).toNat = n := by simp; omega
  rw [this]
abbrev szM : Nat := 140737488351232
theorem szM_max {n : Nat} (h : n ≤ szM) : n ≤ maxLen := by unfold szM at h; unfold maxLen; omega
abbrev trimB (l : List UInt8) : List UInt8 := Lib.trimS l [32, 9]

/-- small letters -/
def lowN (n : Nat) : Nat := if 65 ≤ n ∧ n ≤ 90 then n + 32 else n
def lowB (x : UInt8) : UInt8 := UInt8.ofNat (lowN x.toNat)
theorem u8_lt (x : UInt8) : x.toNat < 256 := x.toNat_lt
theorem lowN_lt {n : Nat} (h : n < 256) : lowN n < 256 := by unfold lowN; split <;> omega
theorem lowB_nat (x : UInt8) : (lowB x).toNat = lowN x.toNat := by
  unfold lowB; simp; exact lowN_lt (u8_lt x)
theorem lowN_two (n : Nat) : lowN (lowN n) = lowN n := by 
  unfold lowN
  by_cases h : 65 ≤ n ∧ n ≤ 90
  · rw [if_pos h, if_neg (by omega)]
  · rw [if_neg h, if_neg h]
theorem lowB_two (x : UInt8) : lowB (lowB x) = lowB x := by
  rw [← UInt8.toNat_inj, lowB_nat, lowB_nat, lowN_two]
def lowL (l : List UInt8) : List UInt8 := l.map lowB
theorem lowL_two (l : List UInt8) : lowL (lowL l) = lowL l := by
  unfold lowL; rw [List.map_map]; apply List.map_congr_left; intro x _; exact lowB_two x
theorem lowL_len (l : List UInt8) : (lowL l).length = l.length := by simp [lowL]
abbrev lowS (s : ByteArray) : ByteArray := ⟨(lowL s.data.toList).toArray⟩
theorem lowS_size (s : ByteArray) : (lowS s).size = s.size := by rw [ba_size, lowL_len, ← Lib.size_eq]
/-- names alike -/
def alikeD (a b : ByteArray) : Bool := decide (lowL a.data.toList = lowL b.data.toList)
theorem alike_low (a b : ByteArray) : alikeD a (lowS b) = alikeD a b := by
  unfold alikeD; rw [ba_list, lowL_two]
theorem alike_self (a : ByteArray) : alikeD a a = true := by unfold alikeD; simp
theorem alike_lows (b : ByteArray) : alikeD (lowS b) b = true := by unfold alikeD; rw [ba_list, lowL_two]; simp
theorem alike_eq (a b : ByteArray) : ((lowS a).toList == (lowS b).toList) = alikeD a b := by
  rw [ByteArray.toList_eq, ByteArray.toList_eq, ba_list, ba_list, Bool.eq_iff_iff]
  unfold alikeD; simp
theorem alike_sizes {a b : ByteArray} (h : a.size ≠ b.size) : alikeD a b = false := by
  unfold alikeD; rw [decide_eq_false_iff_not]; intro e
  have := congrArg List.length e
  rw [lowL_len, lowL_len, ← Lib.size_eq, ← Lib.size_eq] at this; exact h this
theorem alike_bad {a b : ByteArray} {k : Nat} (ha : k < a.size) (hb : k < b.size) (h : lowN a[k].toNat ≠ lowN b[k].toNat) : alikeD a b = false := by
  unfold alikeD; rw [decide_eq_false_iff_not]; intro e
  have := congrArg (·[k]?) e
  unfold lowL at this
  simp only [List.getElem?_map] at this
  have ea : a.data.toList[k]? = some a[k] := by rw [← List.head?_drop, drop_at4 a k ha]; rfl
  have eb : b.data.toList[k]? = some b[k] := by rw [← List.head?_drop, drop_at4 b k hb]; rfl
  rw [ea, eb] at this
  simp only [Option.map_some, Option.some.injEq] at this
  have := congrArg UInt8.toNat this
  rw [lowB_nat, lowB_nat] at this; exact h this
/-- the bytes ahead of k are alike -/
def AlTo (a b : ByteArray) (k : Nat) : Prop := lowL (a.data.toList.take k) = lowL (b.data.toList.take k)
theorem take_more (s : ByteArray) {k : Nat} (h : k < s.size) : s.data.toList.take (k + 1) = s.data.toList.take k ++ [s[k]] := by
  have e : s.data.toList[k]? = some s[k] := by rw [← List.head?_drop, drop_at4 s k h]; rfl
  rw [List.take_add_one, e]; rfl
theorem AlTo.more {a b : ByteArray} {k : Nat} (h : AlTo a b k) (ha : k < a.size) (hb : k < b.size) (e : lowN a[k].toNat = lowN b[k].toNat) : AlTo a b (k + 1) := by
  unfold AlTo at h ⊢
  rw [take_more a ha, take_more b hb]
  unfold lowL at h ⊢
  rw [List.map_append, List.map_append, h]
  simp only [List.map_cons, List.map_nil, List.append_cancel_left_eq, List.cons.injEq, and_true]
  rw [← UInt8.toNat_inj, lowB_nat, lowB_nat, e]
theorem AlTo.all {a b : ByteArray} (h : AlTo a b a.size) (e : a.size = b.size) : alikeD a b = true := by
  unfold AlTo at h
  rw [List.take_of_length_le (by rw [← Lib.size_eq]; exact Nat.le_refl _), List.take_of_length_le (by rw [← Lib.size_eq]; omega)] at h
  unfold alikeD; simpa using h

/-- what is found -/
def ofD (l : List Fd) (name : ByteArray) : List ByteArray := (l.filter fun f => alikeD f.1 name).map (·.2)
def getD (l : List Fd) (name : ByteArray) : ByteArray × Bool := match ofD l name with
  | [] => (⟨#[]⟩, false)
  | v :: _ => (v, true)
/-- what is left -/
def woD (l : List Fd) (name : ByteArray) : List Fd := l.filter fun f => !alikeD f.1 name
/-- with one -/
def setG (name value : ByteArray) : Bool → List Fd → List Fd
  | p, [] => if p then [] else [(name, value)]
  | p, f :: r => if alikeD f.1 name then (if p then setG name value true r else (name, value) :: setG name value true r) else f :: setG name value p r
def setD (l : List Fd) (name value : ByteArray) : List Fd := setG name value false l
theorem setG_len (name value : ByteArray) : ∀ (p : Bool) (l : List Fd), (setG name value p l).length ≤ l.length + 1
  | p, [] => by cases p <;> simp [setG]
  | p, f :: r => by
    have h1 := setG_len name value true r
    have h2 := setG_len name value p r
    simp only [setG]
    split
    · split <;> simp only [List.length_cons] <;> omega
    · simp only [List.length_cons]; omega
theorem ofD_snoc {l : List Fd} {k : Nat} (name : ByteArray) (h : k < l.length) : ofD (l.take (k + 1)) name = if alikeD l[k].1 name then ofD (l.take k) name ++ [l[k].2] else ofD (l.take k) name := by
  unfold ofD; rw [List.take_succ_eq_append_getElem h, List.filter_append, List.map_append]
  by_cases e : alikeD l[k].1 name = true
  · rw [if_pos e]; simp [e]
  · rw [if_neg e]; simp [e]
theorem woD_snoc {l : List Fd} {k : Nat} (name : ByteArray) (h : k < l.length) : woD (l.take (k + 1)) name = if alikeD l[k].1 name then woD (l.take k) name else woD (l.take k) name ++ [l[k]] := by
  unfold woD; rw [List.take_succ_eq_append_getElem h, List.filter_append]
  by_cases e : alikeD l[k].1 name = true
  · rw [if_pos e]; simp [e]
  · rw [if_neg e]; simp [e]
theorem ofD_len (l : List Fd) (name : ByteArray) : (ofD l name).length ≤ l.length := by
  unfold ofD; rw [List.length_map]; exact List.length_filter_le _ _
theorem woD_len (l : List Fd) (name : ByteArray) : (woD l name).length ≤ l.length := List.length_filter_le _ _
theorem getD_at {l : List Fd} {k : Nat} {name : ByteArray} (h : k < l.length) (h0 : ofD (l.take k) name = []) (e : alikeD l[k].1 name = true) : getD l name = (l[k].2, true) := by
  have : ofD l name = l[k].2 :: ofD (l.drop (k + 1)) name := by
    have h1 := ofD_snoc name h
    rw [if_pos e, h0] at h1
    have h2 : ofD l name = ofD (l.take (k + 1)) name ++ ofD (l.drop (k + 1)) name := by
      unfold ofD; rw [← List.map_append, ← List.filter_append, List.take_append_drop]
    rw [h2, h1]; rfl
  unfold getD; rw [this]
theorem getD_none {l : List Fd} {name : ByteArray} (h0 : ofD l name = []) : getD l name = (⟨#[]⟩, false) := by unfold getD; rw [h0]
theorem getD_some {l : List Fd} {name : ByteArray} (h : 0 < (ofD l name).length) : getD l name = ((ofD l name)[0], true) := by
  unfold getD
  generalize ofD l name = o at *
  cases o with
  | nil => simp at h
  | cons v r => rfl
/-- how far a setting is -/
def SetAt (l : List Fd) (name value : ByteArray) (k : Nat) (p : Bool) (acc : List Fd) : Prop := acc ++ setG name value p (l.drop k) = setD l name value
theorem SetAt.more {l : List Fd} {name value : ByteArray} {k : Nat} {p : Bool} {acc : List Fd} (h : SetAt l name value k p acc) (hk : k < l.length) :
    if alikeD l[k].1 name then (if p then SetAt l name value (k + 1) true acc else SetAt l name value (k + 1) true (acc ++ [(name, value)])) else SetAt l name value (k + 1) p (acc ++ [l[k]]) := by
  unfold SetAt at *
  rw [List.drop_eq_getElem_cons hk] at h
  simp only [setG] at h
  by_cases e : alikeD l[k].1 name = true
  · rw [if_pos e] at h ⊢
    cases p with
    | true => simpa using h
    | false => simpa using h
  · rw [if_neg e] at h ⊢
    simpa using h
theorem SetAt.fin {l : List Fd} {name value : ByteArray} {p : Bool} {acc : List Fd} (h : SetAt l name value l.length p acc) : setD l name value = if p then acc else acc ++ [(name, value)] := by
  unfold SetAt at h
  rw [List.drop_length] at h
  rw [← h]
  cases p <;> simp [setG]

/-- FieldCase's mathematics -/
theorem ofD_low (l : List Fd) (name : ByteArray) : ofD l (lowS name) = ofD l name := by
  unfold ofD; congr 1; apply List.filter_congr; intro x _; exact alike_low _ _
theorem getD_low (l : List Fd) (name : ByteArray) : getD l (lowS name) = getD l name := by
  unfold getD; rw [ofD_low]
theorem ofD_setG (name value : ByteArray) : ∀ (p : Bool) (l : List Fd), ofD (setG (lowS name) value p l) name = if p then [] else [value]
  | p, [] => by
    cases p
    · simp [setG, ofD, alike_lows]
    · simp [setG, ofD]
  | p, f :: r => by
    have h1 := ofD_setG name value true r
    have h2 := ofD_setG name value p r
    simp only [setG]
    rw [alike_low]
    by_cases e : alikeD f.1 name = true
    · rw [if_pos e]
      cases p with
      | true => simpa using h1
      | false =>
        simp only [Bool.false_eq_true, if_false, if_true] at h1 ⊢
        unfold ofD at h1 ⊢
        rw [List.filter_cons, if_pos (alike_lows name), List.map_cons, h1]
    · rw [if_neg e]
      unfold ofD at h2 ⊢
      rw [List.filter_cons, if_neg e, h2]
theorem woD_setG (name value : ByteArray) : ∀ (p : Bool) (l : List Fd), woD (setG (lowS name) value p l) name = woD l (lowS name)
  | p, [] => by
    cases p
    · simp [setG, woD, alike_lows]
    · simp [setG, woD]
  | p, f :: r => by
    have h1 := woD_setG name value true r
    have h2 := woD_setG name value p r
    simp only [setG]
    by_cases e : alikeD f.1 (lowS name) = true
    · rw [if_pos e]
      have e2 : woD (f :: r) (lowS name) = woD r (lowS name) := by unfold woD; simp [e]
      rw [e2]
      cases p with
      | true => exact h1
      | false =>
        simp only [Bool.false_eq_true, if_false]
        rw [← h1]
        unfold woD; simp [alike_lows]
    · rw [if_neg e]
      have e2 : woD (f :: r) (lowS name) = f :: woD r (lowS name) := by unfold woD; simp [e]
      rw [e2, ← h2]
      rw [alike_low] at e
      unfold woD; simp [e]

/-- which bytes a token has; a value -/
def markL : List UInt8 := [33, 35, 36, 37, 38, 39, 42, 43, 45, 46, 94, 95, 96, 124, 126]
def tokN (n : Nat) : Bool := decide (48 ≤ n ∧ n ≤ 57) || decide (65 ≤ n ∧ n ≤ 90) || decide (97 ≤ n ∧ n ≤ 122) || markL.any fun x => decide (x.toNat = n)
def valN (n : Nat) : Bool := decide (32 ≤ n ∧ n ≤ 126) || decide (n = 9)
def tokS (s : ByteArray) : Bool := decide (1 ≤ s.size) && s.data.toList.all fun x => tokN x.toNat
def nameS (s : ByteArray) : Bool := decide (s.size ≤ 200) && tokS s
def plainS (s : ByteArray) : Bool := s.data.toList.all fun x => valN x.toNat
def valueS (s : ByteArray) : Bool := decide (s.size ≤ 8192) && decide (trimB s.data.toList = s.data.toList) && plainS s
def rightD (f : Fd) : Bool := nameS f.1 && valueS f.2
/-- the bytes ahead of k fit -/
def AllTo (p : Nat → Bool) (s : ByteArray) (k : Nat) : Prop := (s.data.toList.take k).all (fun x => p x.toNat) = true
theorem AllTo.zero (p : Nat → Bool) (s : ByteArray) : AllTo p s 0 := by unfold AllTo; simp
theorem AllTo.more {p : Nat → Bool} {s : ByteArray} {k : Nat} (h : AllTo p s k) (hk : k < s.size) (hx : p s[k].toNat = true) : AllTo p s (k + 1) := by
  unfold AllTo at h ⊢
  rw [take_more s hk, List.all_append, h]
  simp [hx]
theorem AllTo.bad {p : Nat → Bool} {s : ByteArray} {k : Nat} (hk : k < s.size) (hx : p s[k].toNat = false) : (s.data.toList.all fun x => p x.toNat) = false := by
  cases e : s.data.toList.all fun x => p x.toNat with
  | false => rfl
  | true =>
    have h := List.all_eq_true.1 e s[k] (by
      have : s.data.toList[k]? = some s[k] := by rw [← List.head?_drop, drop_at4 s k hk]; rfl
      exact List.mem_of_getElem? this)
    rw [hx] at h; cases h
theorem AllTo.all {p : Nat → Bool} {s : ByteArray} (h : AllTo p s s.size) : (s.data.toList.all fun x => p x.toNat) = true := by
  unfold AllTo at h
  rwa [List.take_of_length_le (by rw [← Lib.size_eq]; exact Nat.le_refl _)] at h
end Go.Proofs.YtomcoacndppkcaaGreatDoor.F
