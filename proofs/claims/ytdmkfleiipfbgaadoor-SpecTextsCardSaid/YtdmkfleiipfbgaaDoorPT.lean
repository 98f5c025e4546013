/-
  Decimal digits: the library's numerals, the reference's Digits; the texts of ranges as lists of bytes, and that they are read as they were.
-/
import Derived.Lib.ItoaLen
import Derived.Lib.AppendIntMem
import Derived.Lib.QuietBelow
import Derived.Laws.IdiomStrings
import Derived.Lib.Join
import Derived.Test.YtdmkfleiipfbgaaDoorPF
import Derived.Test.YtdmkfleiipfbgaaDoorPC
namespace Go.Proofs.YtdmkfleiipfbgaaDoor
open Go Go.RowKit

def isDig (x : UInt8) : Prop := 48 ≤ x.toNat ∧ x.toNat ≤ 57
theorem dig_of {u : Nat} (h : u < 10) : (UInt8.ofNat (48 + u)).toNat = 48 + u := by
  rw [UInt8.toNat_ofNat']; omega
theorem decDigits_dig (u : Nat) : ∀ x ∈ Lib.decDigits u, isDig x := by
  induction u using Nat.strongRecOn with
  | _ u ih =>
    intro x hx
    by_cases h : u < 10
    · rw [Lib.decDigits, dif_pos h] at hx
      simp only [List.mem_singleton] at hx
      subst hx
      unfold isDig
      rw [dig_of h]; omega
    · rw [Lib.decDigits, dif_neg h, List.mem_append] at hx
      rcases hx with hx | hx
      · exact ih (u / 10) (by omega) x hx
      · simp only [List.mem_singleton] at hx
        subst hx
        unfold isDig
        rw [dig_of (by omega)]; omega
theorem decDigits_ne (u : Nat) : Lib.decDigits u ≠ [] := by
  rw [Lib.decDigits]; split <;> simp
theorem itoa_dec {a : Int} (h : 0 ≤ a) : Lib.itoa a = Lib.decDigits a.toNat := by
  unfold Lib.itoa; rw [if_neg (by omega)]
theorem itoa_dig {a : Int} (h : 0 ≤ a) : ∀ x ∈ Lib.itoa a, isDig x := by rw [itoa_dec h]; exact decDigits_dig _
theorem itoa_ne {a : Int} (h : 0 ≤ a) : Lib.itoa a ≠ [] := by rw [itoa_dec h]; exact decDigits_ne _

theorem itoa_len {a : Int} (h0 : 0 ≤ a) (h1 : a ≤ 4611686018427387904) : (Lib.itoa a).length ≤ 21 := Lib.itoa_length_le a (by omega) (by omega)

theorem ba_append (l m : List UInt8) : (⟨l.toArray⟩ ++ ⟨m.toArray⟩ : ByteArray) = ⟨(l ++ m).toArray⟩ := by
  apply ByteArray.ext; simp [ByteArray.data_append]

theorem itoa_small {n : Int} (h0 : 0 ≤ n) (h1 : n < 10) : Lib.itoa n = [UInt8.ofNat (48 + n.toNat)] := by
  rw [itoa_dec h0, Lib.decDigits_one (by omega)]
theorem itoa_more {n : Int} (h1 : 10 ≤ n) : Lib.itoa n = Lib.itoa (n / 10) ++ Lib.itoa (n % 10) := by
  have e1 : (n / 10).toNat = n.toNat / 10 := by omega
  have e2 : (n % 10).toNat = n.toNat % 10 := by omega
  rw [itoa_dec (by omega), itoa_dec (by omega), itoa_small (n := n % 10) (by omega) (by omega), e1, e2]
  conv => lhs; rw [Lib.decDigits, dif_neg (by omega)]


set_option maxHeartbeats 1600000 in
theorem dg_any : ∀ (k : Nat) (n : Int) (w : World), n.toNat ≤ k → 0 ≤ n → n ≤ 4611686018427387904 →
    Calls Tryd.prog 46 #[.int .i64 n] w fun e w' => e = .returned (.string ⟨(Lib.itoa n).toArray⟩) ∧ Below w.heap.size w w' := by
  intro k
  induction k with
  | zero =>
    intro n w hk h0 h2
    obtain rfl : n = 0 := by omega
    have hcv := Go.run_convert_bytes_back (P := Tryd.prog) (w.alloc (.cells #[.int .u8 48] 5)) 87 9 5 ⟨w.heap.size, 0, none⟩ 1 [48] Tryd.underlying87 Tryd.underlying5 Tryd.underlying9 (fun j hj => by
      have : j = 0 := by simpa using hj
      subst this
      simp [Addr.add])
    simp only [List.length_cons, List.length_nil, Nat.zero_add] at hcv
    go_enter Tryd.func46, Tryd.ntmps46
    go_wp2_with fail
    go_ret
    exact ⟨by rw [itoa_small (n := 0) (by omega) (by omega)]; rfl, by go_grown⟩
  | succ k ih =>
    intro n w hk h0 h2
    have IH := Lib.hid ih
    clear ih
    have hm : n % 10 < 10 ∧ 0 ≤ n % 10 := by omega
    obtain ⟨m, hmm⟩ : ∃ m, n % 10 = m := ⟨_, rfl⟩
    have htm : n.tmod 10 = m := by rw [Int.tmod_eq_emod_of_nonneg h0]; exact hmm
    have htd : n.tdiv 10 = n / 10 := Int.tdiv_eq_ediv_of_nonneg h0
    obtain ⟨c, hc, hd⟩ : ∃ c : UInt8, Lib.itoa m = [c] ∧ c.toNat = 48 + m.toNat := ⟨_, itoa_small (by omega) (by omega), dig_of (by omega)⟩
    have HI := Lib.hid hc; clear hc
    have hcv := Go.run_convert_bytes_back (P := Tryd.prog) (w.alloc (.cells #[.int .u8 (48 + m)] 5)) 87 9 5 ⟨w.heap.size, 0, none⟩ 1 [c] Tryd.underlying87 Tryd.underlying5 Tryd.underlying9 (fun j hj => by
      have : j = 0 := by simpa using hj
      subst this
      simp [Addr.add, hd]; omega)
    simp only [List.length_cons, List.length_nil, Nat.zero_add] at hcv
    have hb1 : 0 ≤ m := by omega
    have hb2 : m < 10 := by omega
    have HM := Lib.hid hmm
    clear hd hm hmm
    by_cases h1 : n < 10
    · have HF : Hid (Ending.returned (.string (⟨[c].toArray⟩ : ByteArray)) = .returned (.string ⟨(Lib.itoa n).toArray⟩)) := by
        unfold Hid; rw [← HI.out, show n = m by have := HM.out; omega]
      go_enter Tryd.func46, Tryd.ntmps46
      go_wp2_with fail
      go_ret
      exact ⟨HF.out, by go_grown⟩
    · have l1 := itoa_len (a := n / 10) (by omega) (by omega)
      have HF : Hid (Ending.returned (.string (⟨(Lib.itoa (n / 10)).toArray⟩ ++ ⟨[c].toArray⟩ : ByteArray)) = .returned (.string ⟨(Lib.itoa n).toArray⟩)) := by
        unfold Hid; rw [ba_append, ← HI.out, ← HM.out, ← itoa_more (by omega)]
      have e1 : Ext w (w.alloc (.cells #[.int .u8 (48 + m)] 5)) := (Below.refl _ _).alloc (Nat.le_refl _) _
      go_enter Tryd.func46, Tryd.ntmps46
      go_wp2_with fail
      with_reducible refine (IH.out (n / 10) _ (by omega) (by omega) (by omega)).mono ?_
      rintro e w1 ⟨rfl, hb1⟩
      have B1 := Ext.tr e1 hb1
      go_wp2_with fail
      go_ret
      exact ⟨HF.out, B1⟩

/- the texts of ranges -/
def numT (n : Int) : List UInt8 := if n = -1 then [] else Lib.itoa n
def itemT (x : Sp) : List UInt8 := numT x.1 ++ 45 :: numT x.2
def itemsT : List Sp → List UInt8
  | [] => []
  | x :: r => match r with
    | [] => itemT x
    | _ :: _ => itemT x ++ 44 :: itemsT r
theorem itemsT_cons (x y : Sp) (r : List Sp) : itemsT (x :: y :: r) = itemT x ++ 44 :: itemsT (y :: r) := rfl
theorem itemsT_one (x : Sp) : itemsT [x] = itemT x := rfl
def textT (l : List Sp) : List UInt8 := [98, 121, 116, 101, 115, 61] ++ itemsT l

theorem itoa_len18 : ∀ (k : Nat) (n : Int), 0 ≤ n → n < 10 ^ (k + 1) → (Lib.itoa n).length ≤ k + 1
  | 0, n, h0, h1 => by rw [itoa_small h0 (by simpa using h1)]; simp
  | k + 1, n, h0, h1 => by
    by_cases h : n < 10
    · rw [itoa_small h0 h]; simp
    · rw [itoa_more (by omega), List.length_append, itoa_small (n := n % 10) (by omega) (by omega)]
      have e : n / 10 < 10 ^ (k + 1) := by
        rw [Int.pow_succ] at h1; omega
      have := itoa_len18 k (n / 10) (by omega) e
      simp; omega
theorem runD_append : ∀ (l m : List UInt8) (v u : Int), runD v l = (u, true) → runD v (l ++ m) = runD u m
  | [], m, v, u, h => by
    simp only [runD, Prod.mk.injEq, and_true] at h
    subst h; rfl
  | c :: r, m, v, u, h => by
    rw [List.cons_append]
    rw [runD] at h
    conv => lhs; rw [runD]
    by_cases k : (c.toNat : Int) < 48 ∨ 57 < (c.toNat : Int)
    · rw [if_pos k] at h; cases h
    · rw [if_neg k] at h ⊢
      exact runD_append r m _ u h
theorem runD_itoa : ∀ (k : Nat) (n : Int), n.toNat ≤ k → 0 ≤ n → runD 0 (Lib.itoa n) = (n, true)
  | 0, n, hk, h0 => by
    obtain rfl : n = 0 := by omega
    rw [itoa_small (by omega) (by omega)]; decide
  | k + 1, n, hk, h0 => by
    by_cases h : n < 10
    · rw [itoa_small h0 h]
      have hd := dig_of (u := n.toNat) (by omega)
      simp only [runD, hd]
      rw [if_neg (by omega)]
      congr 1; omega
    · rw [itoa_more (by omega), runD_append _ _ 0 (n / 10) (runD_itoa k (n / 10) (by omega) (by omega)), itoa_small (n := n % 10) (by omega) (by omega)]
      have hd := dig_of (u := (n % 10).toNat) (by omega)
      simp only [runD, hd]
      rw [if_neg (by omega)]
      congr 1; omega
theorem numD_numT {n : Int} (h0 : -1 ≤ n) (h1 : n ≤ 999999999999999999) : numD (numT n) = (n, true) := by
  unfold numT numD
  by_cases h : n = -1
  · subst h; simp
  · rw [if_neg h, if_neg (itoa_ne (by omega)), if_neg (by have := itoa_len18 17 n (by omega) (by omega); omega)]
    exact runD_itoa n.toNat n (Nat.le_refl _) (by omega)
theorem numT_dig {n : Int} (h0 : -1 ≤ n) : ∀ x ∈ numT n, isDig x := by
  unfold numT
  by_cases h : n = -1
  · rw [if_pos h]; intro x hx; cases hx
  · rw [if_neg h]; exact itoa_dig (by omega)
theorem numT_len {n : Int} (h0 : -1 ≤ n) (h1 : n ≤ 999999999999999999) : (numT n).length ≤ 18 := by
  unfold numT
  by_cases h : n = -1
  · rw [if_pos h]; simp
  · rw [if_neg h]; exact itoa_len18 17 n (by omega) (by omega)
theorem cut_at {c : UInt8} : ∀ (d r : List UInt8), c ∉ d → Lib.cut (d ++ c :: r) [c] = (d, r, true)
  | [], r, _ => cut_hd c r
  | x :: d, r, h => by
    simp only [List.mem_cons, not_or] at h
    rw [List.cons_append, cut_tl (fun e => h.1 e.symm), cut_at d r h.2]
theorem dig_not {c : UInt8} (hc : c.toNat < 48) {d : List UInt8} (h : ∀ x ∈ d, isDig x) : c ∉ d := fun hm => by
  have := h c hm; unfold isDig at this; omega
theorem range_item {x : Sp} (h : srB x.1 x.2 = true) : rangeD (itemT x) = (x, true) := by
  have hs := SR.of h
  unfold SR at hs
  unfold rangeD itemT
  rw [cut_at _ _ (dig_not (by decide) (numT_dig hs.1))]
  simp only
  rw [numD_numT (by omega) (by omega), numD_numT (by omega) (by omega)]
  simp [h]
theorem item_byte {x : Sp} (h : SR x.1 x.2) : ∀ c ∈ itemT x, 45 ≤ c.toNat ∧ c.toNat ≤ 57 := by
  unfold SR at h
  intro c hc
  unfold itemT at hc
  simp only [List.mem_append, List.mem_cons] at hc
  rcases hc with hc | rfl | hc
  · have := numT_dig h.1 c hc; unfold isDig at this; omega
  · decide
  · have := numT_dig h.2.2.1 c hc; unfold isDig at this; omega
theorem item_ne (x : Sp) : itemT x ≠ [] := by unfold itemT; simp
theorem item_len {x : Sp} (h : SR x.1 x.2) : (itemT x).length ≤ 37 := by
  unfold SR at h
  have a := numT_len h.1 (by omega)
  have b := numT_len h.2.2.1 (by omega)
  unfold itemT; simp; omega
theorem trim_item {x : Sp} (h : SR x.1 x.2) : Lib.trimS (itemT x) [32, 9] = itemT x := by
  have hno : ∀ c ∈ itemT x, ([32, 9] : List UInt8).contains c = false := fun c hc => by
    have := item_byte h c hc
    cases e : ([32, 9] : List UInt8).contains c with
    | false => rfl
    | true =>
      simp at e
      rcases e with rfl | rfl
      · simp at this
      · simp at this
  have hdrop : ∀ l : List UInt8, (∀ c ∈ l, ([32, 9] : List UInt8).contains c = false) → l.dropWhile (([32, 9] : List UInt8).contains ·) = l := fun l hl => by
    cases l with
    | nil => rfl
    | cons c r => rw [List.dropWhile_cons_of_neg]; rw [hl c (by simp)]; decide
  unfold Lib.trimS Lib.trimLeftS Lib.trimRightS
  rw [hdrop (itemT x).reverse (fun c hc => hno c (by simpa using hc)), List.reverse_reverse]
  exact hdrop _ hno
theorem pieces_end : ∀ (d : List UInt8), 44 ∉ d → pieces d = [d]
  | [], _ => rfl
  | x :: d, h => by
    simp only [List.mem_cons, not_or] at h
    simp only [pieces]
    rw [if_neg (fun e => h.1 e.symm), pieces_end d h.2]
theorem pieces_step (d r : List UInt8) (h : 44 ∉ d) : pieces (d ++ 44 :: r) = d :: pieces r := by
  rw [pieces_cut, cut_at d r h]; simp
theorem item_comma {x : Sp} (h : SR x.1 x.2) : (44 : UInt8) ∉ itemT x := fun hm => by have := item_byte h _ hm; simp at this
theorem pieces_items : ∀ (l : List Sp), l ≠ [] → SRL l → pieces (itemsT l) = l.map itemT
  | [], h, _ => absurd rfl h
  | [x], _, hr => by rw [itemsT_one]; exact pieces_end _ (item_comma (hr x (by simp)))
  | x :: y :: r, _, hr => by
    have ih := pieces_items (y :: r) (by simp) (fun z hz => hr z (List.mem_cons_of_mem _ hz))
    rw [itemsT_cons, pieces_step _ _ (item_comma (hr x (by simp))), ih]
    rfl
theorem go_items : ∀ (l acc : List Sp), allR l = true → acc.length + l.length ≤ 64 → goP (l.map itemT) acc = some (acc ++ l)
  | [], acc, _, _ => by simp [goP]
  | x :: l, acc, hr, hl => by
    have hx : srB x.1 x.2 = true := List.all_eq_true.1 hr x (by simp)
    have hr' : allR l = true := List.all_eq_true.2 fun y hy => List.all_eq_true.1 hr y (List.mem_cons_of_mem _ hy)
    rw [List.map_cons, goP, stepP, trim_item (SR.of hx), if_neg (item_ne x), range_item hx]
    simp only [if_true, List.length_cons] at hl ⊢
    rw [if_pos (by omega)]
    show goP (l.map itemT) (acc ++ [x]) = _
    rw [go_items l (acc ++ [x]) hr' (by simp; omega)]
    simp
theorem parse_text {l : List Sp} (hne : l ≠ []) (hr : allR l = true) (hl : l.length ≤ 64) : parseD (textT l) = (l, 0) := by
  unfold parseD textT
  have e : Lib.cut ([98, 121, 116, 101, 115, 61] ++ itemsT l) [61] = (bytesL, itemsT l, true) := cut_at bytesL (itemsT l) (by decide)
  rw [e]
  simp only
  rw [if_pos ⟨trivial, rfl, by decide⟩]
  unfold restP
  rw [if_pos rfl, pieces_items l hne (SRL.of hr), go_items l [] hr (by simpa using hl)]
  have h0 : l.length ≠ 0 := by simpa using hne
  simp only [List.nil_append, endP]
  rw [if_neg h0, if_neg (by omega)]
theorem items_len : ∀ (l : List Sp), SRL l → (itemsT l).length ≤ 38 * l.length
  | [], _ => by simp [itemsT]
  | [x], hr => by have := item_len (hr x (by simp)); rw [itemsT_one]; simp; omega
  | x :: y :: r, hr => by
    have a := item_len (hr x (by simp))
    have b := items_len (y :: r) (fun z hz => hr z (List.mem_cons_of_mem _ hz))
    rw [itemsT_cons]
    simp only [List.length_append, List.length_cons] at *; omega
theorem items_snoc : ∀ (l : List Sp) (x : Sp), itemsT (l ++ [x]) = if l = [] then itemT x else itemsT l ++ 44 :: itemT x
  | [], x => by simp [itemsT]
  | [y], x => by simp [itemsT]
  | y :: z :: r, x => by
    have ih := items_snoc (z :: r) x
    rw [if_neg (by simp)] at ih ⊢
    rw [List.cons_append, List.cons_append, itemsT_cons, ← List.cons_append, ih, itemsT_cons]
    simp
theorem join_items : ∀ (l : List Sp), Lib.join (l.map itemT) [44] = itemsT l
  | [] => by simp [Lib.join, itemsT]
  | [x] => by simp [Lib.join, itemsT, List.intercalate]
  | x :: y :: r => by
    have ih := join_items (y :: r)
    rw [itemsT_cons, ← ih]
    simp [Lib.join, List.intercalate]
end Go.Proofs.YtdmkfleiipfbgaaDoor
