/-
  Right conditions are read of their fields as they were: mathematics; alike conditions.
-/
import Derived.Test.YtomcoacndppkcaaGreatDoorTV
import Derived.Test.YtomcoacndppkcaaGreatDoorTO
import Derived.Test.YtomcoacndppkcaaGreatDoorYD
import Derived.Test.YtomcoacndppkcaaGreatDoorWD
import Derived.Test.YtomcoacndppkcaaGreatDoorWH
namespace Go.Proofs.YtomcoacndppkcaaGreatDoor.T
open Go Go.RowKit

theorem trimB_hd {b : UInt8} (h : isB b = true) (l : List UInt8) : trimB (b :: l) = trimB l := by
  unfold trimB; rw [trim_two, trim_two, cutL_yes h]
theorem trimB_tl {b : UInt8} (h : isB b = true) (l : List UInt8) : trimB (l ++ [b]) = trimB l := by
  unfold trimB; rw [trim_two, trim_two, ← cut_comm, ← cut_comm, cutR_yes h]
theorem stepT_hd {b : UInt8} (h : isB b = true) (l : List UInt8) (acc : List Tg) : stepT (b :: l) acc = stepT l acc := by unfold stepT; rw [trimB_hd h]
theorem stepT_tl {b : UInt8} (h : isB b = true) (l : List UInt8) (acc : List Tg) : stepT (l ++ [b]) acc = stepT l acc := by unfold stepT; rw [trimB_tl h]
theorem isB_ne {b : UInt8} (h : isB b = true) : b ≠ 44 ∧ b ≠ 34 := by
  rw [isB_iff] at h
  constructor
  · rintro rfl; simp at h
  · rintro rfl; simp at h
theorem flipQ_b {b : UInt8} (h : isB b = true) (q : Bool) : flipQ q b = q := by unfold flipQ; rw [if_neg (isB_ne h).2]
theorem rest_hd {b : UInt8} (h : isB b = true) (s : List UInt8) (acc : List Tg) : restP true (b :: s) acc = restP true s acc := by
  rw [restP_step, restP_step s]
  have e : cutP false (b :: s) = (b :: (cutP false s).1, (cutP false s).2.1, (cutP false s).2.2) := by
    conv => lhs; unfold cutP
    rw [if_neg (fun h2 => (isB_ne h).1 h2.1), flipQ_b h]
  rw [e]
  simp only
  rw [stepT_hd h]
theorem cutP_b {b : UInt8} (h : isB b = true) (q : Bool) : cutP q [b] = ([b], [], false) := by
  unfold cutP
  rw [if_neg (fun h2 => (isB_ne h).1 h2.1)]; rfl
theorem rest_tl {b : UInt8} (h : isB b = true) : ∀ (n : Nat) (s : List UInt8) (acc : List Tg), s.length ≤ n → restP true (s ++ [b]) acc = restP true s acc := by
  intro n
  induction n with
  | zero =>
    intro s acc hs
    have : s = [] := List.eq_nil_of_length_eq_zero (by omega)
    subst this
    rw [List.nil_append, rest_hd h]
  | succ n ih =>
    intro s acc hs
    rw [restP_step, restP_step s, cutP_append, cutP_b h]
    cases hm : (cutP false s).2.2 with
    | true =>
      have hl := (cutP_len false s).2.2 hm
      simp only [if_true]
      congr 1
      funext a
      exact ih _ a (by omega)
    | false =>
      obtain ⟨e1, e2⟩ := cutP_end false s hm
      simp only [Bool.false_eq_true, if_false]
      rw [stepT_tl h, e1]
      rfl
theorem listD_hd {b : UInt8} (h : isB b = true) (s : List UInt8) : listD (b :: s) = listD s := by unfold listD; rw [trimB_hd h, rest_hd h]
theorem listD_tl {b : UInt8} (h : isB b = true) (s : List UInt8) : listD (s ++ [b]) = listD s := by unfold listD; rw [trimB_tl h, rest_tl h s.length s [] (Nat.le_refl _)]

/-- quotes are counted -/
theorem endS_count : ∀ (s : List UInt8) (q : Bool), endS q s = (q ^^ decide (s.count 34 % 2 = 1))
  | [], q => by simp [endS]
  | x :: s, q => by
    unfold endS
    rw [endS_count s]
    by_cases hx : x = 34
    · subst hx
      rw [List.count_cons_self]
      unfold flipQ
      rw [if_pos rfl]
      by_cases h : s.count 34 % 2 = 1
      · rw [decide_eq_true h, decide_eq_false (by omega)]; cases q <;> rfl
      · rw [decide_eq_false h, decide_eq_true (by omega)]; cases q <;> rfl
    · rw [List.count_cons_of_ne hx]
      unfold flipQ
      rw [if_neg hx]
theorem count_cutL : ∀ l : List UInt8, (cutL l).count 34 = l.count 34
  | [] => rfl
  | x :: l => by
    by_cases hx : isB x = true
    · rw [cutL_yes hx, count_cutL l, List.count_cons_of_ne (isB_ne hx).2]
    · rw [cutL_no hx]
theorem count_trim (l : List UInt8) : (trimB l).count 34 = l.count 34 := by
  unfold trimB
  rw [trim_two]
  unfold cutR
  rw [List.count_reverse]
  have := count_cutL (cutL l).reverse
  unfold cutL at this ⊢
  rw [this, List.count_reverse]
  exact count_cutL l
theorem okT_count {l : List UInt8} (h : okT l = true) : l.count 34 = 0 := by
  rw [List.count_eq_zero]
  intro hm
  have := (okT_iff.1 h).2.2 34 hm
  revert this; decide
theorem qu_split {l : List UInt8} (h : quL l = true) : l = 34 :: midL l ++ [34] := by
  unfold quL at h
  simp only [Bool.and_eq_true, decide_eq_true_eq, beq_iff_eq] at h
  obtain ⟨⟨h2, h0⟩, h1⟩ := h
  match l, h2, h0, h1 with
  | a :: b :: r, _, h0, h1 =>
    simp only [List.head?_cons, Option.some.injEq] at h0
    subst h0
    unfold midL
    simp only [List.drop_succ_cons, List.drop_zero]
    have hne : b :: r ≠ [] := by simp
    have h1' : (b :: r).getLast hne = 34 := by
      rw [List.getLast?_eq_some_getLast (by simp)] at h1
      simpa using h1
    have := List.dropLast_concat_getLast hne
    rw [h1'] at this
    rw [List.cons_append, this]
theorem read_count {l : List UInt8} (h : (readL l).2 = true) : l.count 34 = 2 := by
  unfold readL at h
  split at h
  · rename_i hq
    obtain ⟨h1, h2⟩ := hq
    have e : (Lib.trimPrefix l [87, 47]).count 34 = 2 := by
      rw [qu_split h1, List.cons_append, List.count_cons_self, List.count_append, okT_count h2]; rfl
    rw [← e]
    unfold Lib.trimPrefix
    split
    · rename_i hp
      unfold Lib.hasPrefix at hp
      obtain ⟨t, ht⟩ := List.isPrefixOf_iff_prefix.1 hp
      rw [← ht]
      simp
    · rfl
  · cases h
theorem step_even {p : List UInt8} {acc a : List Tg} (h : stepT p acc = some a) : endS false p = false := by
  rw [endS_count, ← count_trim]
  unfold stepT at h
  split at h
  · rename_i h0; rw [h0]; rfl
  · split at h
    · rename_i h1; rw [read_count h1]; rfl
    · cases h
theorem rest_comma : ∀ (n : Nat) (s : List UInt8) (acc : List Tg), s.length ≤ n → restP true s acc ≠ none → restP true (s ++ [32, 44, 32]) acc = restP true s acc := by
  intro n
  induction n with
  | zero =>
    intro s acc hs _
    have : s = [] := List.eq_nil_of_length_eq_zero (by omega)
    subst this
    rfl
  | succ n ih =>
    intro s acc hs hne
    have h0 := restP_step s acc
    rw [h0] at hne
    rw [restP_step, h0, cutP_append]
    cases hm : (cutP false s).2.2 with
    | true =>
      rw [hm] at hne
      have hl := (cutP_len false s).2.2 hm
      simp only [if_true]
      cases hst : stepT (cutP false s).1 acc with
      | none => rfl
      | some a =>
        rw [hst] at hne
        exact ih _ a (by omega) hne
    | false =>
      obtain ⟨e1, e2⟩ := cutP_end false s hm
      simp only [Bool.false_eq_true, if_false]
      rw [e1]
      rw [e1] at hne
      cases hst : stepT s acc with
      | none => rw [hst] at hne; exact absurd rfl hne
      | some a =>
        rw [step_even hst, show cutP false [32, 44, 32] = ([32], [32], true) from rfl]
        simp only
        rw [stepT_tl (by decide), hst]
        show restP true [32] a = restP false _ a
        rw [rest_hd (by decide)]
        rfl
theorem listD_comma (s : List UInt8) (h : (listD s).2.1 = false) (h2 : (listD s).2.2 ≠ 2) : listD (44 :: s ++ [32, 44, 32]) = ((listD s).1, false, (listD s).2.2) := by
  have hst : ¬ trimB s = [42] := fun e => by unfold listD at h; rw [if_pos e] at h; cases h
  have hne : restP true s [] ≠ none := fun e => by unfold listD at h2; rw [if_neg hst, e] at h2; exact h2 rfl
  have hc : ¬ trimB (44 :: s ++ [32, 44, 32]) = [42] := by
    rw [show 44 :: s ++ [32, 44, 32] = ((44 :: s ++ [32]) ++ [44]) ++ [32] by simp, trimB_tl (by decide)]
    unfold trimB
    rw [trim_two, List.cons_append, List.cons_append, cutL_no (by decide), ← List.cons_append, cutR_no (by decide)]
    simp
  have hr : restP true (44 :: s ++ [32, 44, 32]) [] = restP true s [] := by
    rw [List.cons_append, restP_step]
    have e : cutP false (44 :: (s ++ [32, 44, 32])) = ([], s ++ [32, 44, 32], true) := by
      conv => lhs; unfold cutP
      rw [if_pos ⟨rfl, rfl⟩]
    rw [e]
    show (some []).bind (fun a => restP true (s ++ [32, 44, 32]) a) = _
    exact rest_comma s.length s [] (Nat.le_refl _) hne
  unfold listD
  rw [if_neg hc, if_neg hst, hr]

/-- a right tag is read from its spelling as it was -/
theorem trim_keep {x : UInt8} {l : List UInt8} (h : ¬ isB x = true) (h2 : l.getLast? = some 34 ∨ l = []) : trimB (x :: l) = x :: l ∨ l = [] := by
  rcases h2 with h2 | h2
  · left
    unfold trimB
    rw [trim_two, cutL_no h]
    obtain ⟨m, hm⟩ : ∃ m, l = m ++ [34] := by
      obtain ⟨m, hm⟩ := List.getLast?_eq_some_iff.1 h2
      exact ⟨m, hm⟩
    subst hm
    rw [← List.cons_append, cutR_no (by decide)]
  · exact Or.inr h2
theorem spell_strongL {s : ByteArray} (h : okS s = true) : spellL (s, false) = 34 :: (s.data.toList ++ [34]) := by unfold spellL; simp [h]
theorem spell_weakL {s : ByteArray} (h : okS s = true) : spellL (s, true) = 87 :: 47 :: 34 :: (s.data.toList ++ [34]) := by unfold spellL; simp [h]
theorem trim_spell {t : Tg} (h : okS t.1 = true) : trimB (spellL t) = spellL t := by
  obtain ⟨s, q⟩ := t
  cases q with
  | false =>
    rw [spell_strongL h]
    rcases trim_keep (x := 34) (l := s.data.toList ++ [34]) (by decide) (Or.inl List.getLast?_concat) with h | h
    · exact h
    · simp at h
  | true =>
    rw [spell_weakL h]
    rcases trim_keep (x := 87) (l := 47 :: 34 :: (s.data.toList ++ [34])) (by decide) (Or.inl (by rw [← List.cons_append, ← List.cons_append]; exact List.getLast?_concat)) with h | h
    · exact h
    · simp at h
theorem read_quoted {s : ByteArray} (_h : okS s = true) : quL (34 :: (s.data.toList ++ [34])) = true ∧ midL (34 :: (s.data.toList ++ [34])) = s.data.toList := by
  constructor
  · have e : (34 :: (s.data.toList ++ [34])).getLast? = some 34 := by rw [← List.cons_append]; exact List.getLast?_concat
    unfold quL; rw [e]; simp
  · unfold midL; simp
theorem read_spell {t : Tg} (h : okS t.1 = true) : readL (spellL t) = (t, true) := by
  obtain ⟨s, q⟩ := t
  obtain ⟨h1, h2⟩ := read_quoted h
  have h3 : okT s.data.toList = true := h
  cases q with
  | false =>
    rw [spell_strongL h]
    have hp : Lib.hasPrefix (34 :: (s.data.toList ++ [34])) [87, 47] = false := rfl
    unfold readL Lib.trimPrefix
    rw [hp]
    simp only [Bool.false_eq_true, if_false]
    rw [h2, if_pos ⟨h1, h3⟩, ba_eta]
  | true =>
    rw [spell_weakL h]
    have hp : Lib.hasPrefix (87 :: 47 :: 34 :: (s.data.toList ++ [34])) [87, 47] = true := by unfold Lib.hasPrefix; simp [List.isPrefixOf]
    unfold readL Lib.trimPrefix
    rw [hp]
    simp only [if_true, List.length_cons, List.length_nil, List.drop_succ_cons, List.drop_zero]
    rw [h2, if_pos ⟨h1, h3⟩, ba_eta]
theorem parse_spell {t : Tg} (h : okS t.1 = true) : readL (trimB (spellL t)) = (t, true) := by rw [trim_spell h, read_spell h]
theorem stepQ_spell {t : Tg} (h : okS t.1 = true) (acc : List Tg) : stepQ (spellL t) acc = some (acc ++ [t]) := by
  unfold stepQ
  rw [trim_spell h, if_neg (spell_ne h), read_spell h]; rfl
theorem stepQ_hd {b : UInt8} (h : isB b = true) (l : List UInt8) (acc : List Tg) : stepQ (b :: l) acc = stepQ l acc := by unfold stepQ; rw [trimB_hd h]
theorem cut_quoted (r : List UInt8) : ∀ (l : List UInt8), (∀ x ∈ l, x ≠ 34) → cutP true (l ++ 34 :: r) = (l ++ 34 :: (cutP false r).1, (cutP false r).2.1, (cutP false r).2.2)
  | [], _ => by
    rw [List.nil_append]
    conv => lhs; unfold cutP
    rw [if_neg (by simp)]; rfl
  | x :: l, h => by
    have hx := h x (by simp)
    rw [List.cons_append]
    conv => lhs; unfold cutP
    rw [if_neg (by simp), show flipQ true x = true from by unfold flipQ; rw [if_neg hx], cut_quoted r l (fun y hy => h y (by simp [hy]))]
    rfl
theorem cut_spell {t : Tg} (h : okS t.1 = true) (r : List UInt8) : cutP false (spellL t ++ r) = (spellL t ++ (cutP false r).1, (cutP false r).2.1, (cutP false r).2.2) := by
  obtain ⟨s, q⟩ := t
  have hq : ∀ x ∈ s.data.toList, x ≠ 34 := fun x hx => by
    have := (okT_iff.1 h).2.2 x hx
    rintro rfl
    revert this; decide
  have h1 : cutP false (34 :: (s.data.toList ++ 34 :: r)) = (34 :: (s.data.toList ++ 34 :: (cutP false r).1), (cutP false r).2.1, (cutP false r).2.2) := by
    conv => lhs; unfold cutP
    rw [if_neg (by simp), show flipQ false 34 = true from rfl, cut_quoted r _ hq]
  cases q with
  | false =>
    rw [spell_strongL h]
    simpa using h1
  | true =>
    rw [spell_weakL h]
    have e : (87 :: 47 :: 34 :: (s.data.toList ++ [34])) ++ r = 87 :: 47 :: (34 :: (s.data.toList ++ 34 :: r)) := by simp
    rw [e]
    have h2 : cutP false (47 :: (34 :: (s.data.toList ++ 34 :: r))) = (47 :: (34 :: (s.data.toList ++ 34 :: (cutP false r).1)), (cutP false r).2.1, (cutP false r).2.2) := by
      conv => lhs; unfold cutP
      rw [if_neg (by simp), show flipQ false 47 = false from rfl, h1]
    conv => lhs; unfold cutP
    rw [if_neg (by simp), show flipQ false 87 = false from rfl, h2]
    simp
theorem cut_comma (s : List UInt8) : cutP false (44 :: s) = ([], s, true) := by
  conv => lhs; unfold cutP
  rw [if_pos ⟨rfl, rfl⟩]
theorem parts_hd (s : List UInt8) : parts false (32 :: s) = glue [32] (parts false s) := by
  have := glue_more [] false (x := 32) (by decide) s
  rw [glue_nil] at this
  exact this
theorem go_texts : ∀ (l : List Tg) (acc : List Tg), l ≠ [] → allT l = true → goQ (parts false (textsL l)) acc = some (acc ++ l) ∧ goQ (parts false (32 :: textsL l)) acc = some (acc ++ l) := by
  intro l
  induction l with
  | nil => intro _ h; exact absurd rfl h
  | cons x l ih =>
    intro acc _ ha
    have hx : okS x.1 = true := by unfold allT at ha; simp only [List.all_cons, Bool.and_eq_true] at ha; exact ha.1
    have hl : allT l = true := by unfold allT at ha ⊢; simp only [List.all_cons, Bool.and_eq_true] at ha; exact ha.2
    have hp : ∃ R, parts false (textsL (x :: l)) = spellL x :: R ∧ goQ R (acc ++ [x]) = some (acc ++ x :: l) := by
      cases l with
      | nil =>
        refine ⟨[], ?_, by simp [goQ]⟩
        rw [textsL_one, parts_cut]
        have e := cut_spell hx []
        rw [List.append_nil] at e
        rw [e]
        simp [cutP]
      | cons y r =>
        have h2 := (ih (acc ++ [x]) (by simp) hl).2
        refine ⟨parts false (32 :: textsL (y :: r)), ?_, by rw [h2]; simp⟩
        rw [textsL_cons, parts_cut, cut_spell hx, cut_comma]
        simp
    obtain ⟨R, e1, e2⟩ := hp
    constructor
    · rw [e1]; unfold goQ; rw [stepQ_spell hx]; exact e2
    · rw [parts_hd, e1]
      show goQ (([32] ++ spellL x) :: R) acc = _
      unfold goQ
      rw [List.singleton_append, stepQ_hd (by decide), stepQ_spell hx]; exact e2
theorem texts_head {l : List Tg} (h : l ≠ []) (ha : allT l = true) : ∃ x r, textsL l = x :: r ∧ ¬ isB x = true ∧ x ≠ 42 := by
  cases l with
  | nil => exact absurd rfl h
  | cons t l =>
    have hx : okS t.1 = true := by unfold allT at ha; simp only [List.all_cons, Bool.and_eq_true] at ha; exact ha.1
    have hs : ∃ x r, spellL t = x :: r ∧ ¬ isB x = true ∧ x ≠ 42 := by
      obtain ⟨s, q⟩ := t
      cases q with
      | false => exact ⟨34, _, spell_strongL hx, by decide, by decide⟩
      | true => exact ⟨87, _, spell_weakL hx, by decide, by decide⟩
    obtain ⟨x, r, e, h1, h2⟩ := hs
    cases l with
    | nil => exact ⟨x, r, by rw [textsL_one, e], h1, h2⟩
    | cons y m => exact ⟨x, _, by rw [textsL_cons, e]; rfl, h1, h2⟩
theorem list_texts {l : List Tg} (h : l ≠ []) (ha : allT l = true) : listD (textsL l) = if 64 < l.length then ([], false, 4) else (l, false, 0) := by
  obtain ⟨x, r, e, h1, h2⟩ := texts_head h ha
  have hst : ¬ trimB (textsL l) = [42] := by
    rw [e]
    unfold trimB
    rw [trim_two, cutL_no h1, cutR_cons]
    split
    · first | rw [if_neg h1] | skip
      intro q; injection q with q _; exact h2 q
    · intro q; injection q with q _; exact h2 q
  have hl : l.length ≠ 0 := by simpa using h
  unfold listD
  rw [if_neg hst, endQ, (go_texts l [] h ha).1, List.nil_append]
  simp only [endP]
  rw [if_neg hl]
  split <;> rfl
theorem list_none : listD [] = ([], false, 2) := by kernel_rfl
end Go.Proofs.YtomcoacndppkcaaGreatDoor.T

namespace Go.Proofs.YtomcoacndppkcaaGreatDoor
open Go Go.RowKit
open T (Tg TgAt okS)

theorem ofD_add (l : List F.Fd) (p : Bool) (a v name : ByteArray) : F.ofD (addF l p a v) name = F.ofD l name ++ (if p && F.alikeD a name then [v] else []) := by
  unfold addF F.ofD
  cases p with
  | false => simp
  | true =>
    simp only [if_true, Bool.true_and, List.filter_append, List.map_append]
    congr 1
    rw [List.filter_cons, List.filter_nil]
    split <;> rfl
theorem of_all {p1 p2 p3 p4 p5 : Bool} {v1 v2 v3 v4 v5 : ByteArray} :
    let L := addF (addF (addF (addF (addF [] p1 nmM v1) p2 nmU v2) p3 nmN v3) p4 nmS v4) p5 nmR v5
    F.ofD L nmM = (if p1 then [v1] else []) ∧ F.ofD L nmU = (if p2 then [v2] else []) ∧ F.ofD L nmN = (if p3 then [v3] else []) ∧ F.ofD L nmS = (if p4 then [v4] else []) ∧ F.ofD L nmR = (if p5 then [v5] else []) := by
  have e0 : ∀ x, F.ofD [] x = [] := fun _ => rfl
  have mm : F.alikeD nmM nmM = true := by decide +kernel
  have mu : F.alikeD nmM nmU = false := by decide +kernel
  have mn : F.alikeD nmM nmN = false := by decide +kernel
  have ms : F.alikeD nmM nmS = false := by decide +kernel
  have mr : F.alikeD nmM nmR = false := by decide +kernel
  have um : F.alikeD nmU nmM = false := by decide +kernel
  have uu : F.alikeD nmU nmU = true := by decide +kernel
  have un : F.alikeD nmU nmN = false := by decide +kernel
  have us : F.alikeD nmU nmS = false := by decide +kernel
  have ur : F.alikeD nmU nmR = false := by decide +kernel
  have nm : F.alikeD nmN nmM = false := by decide +kernel
  have nu : F.alikeD nmN nmU = false := by decide +kernel
  have nn : F.alikeD nmN nmN = true := by decide +kernel
  have ns : F.alikeD nmN nmS = false := by decide +kernel
  have nr : F.alikeD nmN nmR = false := by decide +kernel
  have sm : F.alikeD nmS nmM = false := by decide +kernel
  have su : F.alikeD nmS nmU = false := by decide +kernel
  have sn : F.alikeD nmS nmN = false := by decide +kernel
  have ss : F.alikeD nmS nmS = true := by decide +kernel
  have sr : F.alikeD nmS nmR = false := by decide +kernel
  have rm : F.alikeD nmR nmM = false := by decide +kernel
  have ru : F.alikeD nmR nmU = false := by decide +kernel
  have rn : F.alikeD nmR nmN = false := by decide +kernel
  have rs : F.alikeD nmR nmS = false := by decide +kernel
  have rr : F.alikeD nmR nmR = true := by decide +kernel
  refine ⟨?_, ?_, ?_, ?_, ?_⟩ <;>
  · rw [ofD_add, ofD_add, ofD_add, ofD_add, ofD_add, e0]
    simp only [mm, mu, mn, ms, mr, um, uu, un, us, ur, nm, nu, nn, ns, nr, sm, su, sn, ss, sr, rm, ru, rn, rs, rr, Bool.and_true, Bool.and_false, Bool.false_eq_true, if_false, List.append_nil, List.nil_append]

theorem joinL_one (x : ByteArray) : joinL [x] = x.data.toList := by simp [joinL, Lib.join]
theorem tg_back {l : List Tg} {any : Bool} (h : rtD l any = true) : tgD (if (any || decide (0 < l.length)) then [txB l any] else []) = (l, any, 0) := by
  unfold rtD at h
  simp only [Bool.and_eq_true, decide_eq_true_eq] at h
  obtain ⟨⟨h1, h2⟩, h3⟩ := h
  have h3' : T.allT l = true := h3
  cases any with
  | true =>
    have hl : l = [] := List.eq_nil_of_length_eq_zero (by simp at h2; simpa using h2)
    subst hl
    rw [if_pos (by rfl)]
    have e : T.listD (joinL [txB [] true]) = ([], true, 0) := by rw [joinL_one]; kernel_rfl
    rw [tgD_else (by simp) (by rw [e]; simp), e]
  | false =>
    by_cases hl : l = []
    · subst hl; rfl
    · have hp : 0 < l.length := List.length_pos_iff.2 hl
      rw [if_pos (by simp [hp])]
      have e0 : joinL [txB l false] = T.textsL l := by rw [joinL_one, T.ba_list, T.txtD_yes h3']
      have e : T.listD (joinL [txB l false]) = (l, false, 0) := by rw [e0, T.list_texts hl h3', if_neg (by omega)]
      rw [tgD_else (by simp) (by rw [e]; show ¬ 32 < l.length; omega), e]
theorem tk_back {t : Int} (h : tkOk t = true) : tkD (if (t != -1) then [D.txV t] else []) = t := by
  unfold tkOk at h
  rw [Bool.or_eq_true] at h
  by_cases h1 : t = -1
  · subst h1; rfl
  · have hb : (t != -1) = true := by simpa using h1
    have hi : D.inT t = true := by
      rcases h with h | h
      · exact h
      · exact absurd (by simpa using h) h1
    rw [if_pos hb]
    have e := D.par_tx (D.inT_iff.1 hi)
    have ev : D.txV t = D.txB t := by unfold D.txV; rw [if_pos hi]
    rw [ev]
    show (if D.parE (D.txB t) = 0 then D.parV (D.txB t) else -1) = t
    rw [e.2, if_pos rfl, e.1]
theorem rg_back {rt : ByteArray} {rw : Bool} (h : rgOk rt = true) : rgD (if someR rt rw then [spB rt rw] else []) = (rt, rw) := by
  unfold rgOk at h
  by_cases he : rt = ⟨#[]⟩
  · subst he
    cases rw with
    | false => rfl
    | true =>
      rw [if_pos (by rfl)]
      kernel_rfl
  · have hk : okS rt = true := by
      rw [Bool.or_eq_true] at h
      rcases h with h | h
      · exact absurd (by simpa using h) he
      · exact h
    rw [if_pos (by unfold someR; simp [he])]
    show (if (T.readL (T.trimB (T.spellL (rt, rw)))).2 then (T.readL (T.trimB (T.spellL (rt, rw)))).1 else (⟨#[]⟩, true)) = (rt, rw)
    rw [T.parse_spell (t := (rt, rw)) hk]
    rfl
/-- right conditions are read of their fields as they were -/
theorem par_back {l1 l2 : List Tg} {am an : Bool} {s u : Int} {rt : ByteArray} {rw : Bool} (h : rightD l1 l2 am an s u rt = true) :
    parD (fdL l1 l2 am an s u rt rw) = ⟨l1, l2, am, an, s, u, (rt, rw), 0⟩ := by
  unfold rightD at h
  simp only [Bool.and_eq_true] at h
  obtain ⟨⟨⟨⟨h1, h2⟩, h3⟩, h4⟩, h5⟩ := h
  obtain ⟨a1, a2, a3, a4, a5⟩ := of_all (p1 := am || decide (0 < l1.length)) (p2 := u != -1) (p3 := an || decide (0 < l2.length)) (p4 := s != -1) (p5 := someR rt rw) (v1 := txB l1 am) (v2 := D.txV u) (v3 := txB l2 an) (v4 := D.txV s) (v5 := spB rt rw)
  have e : fdL l1 l2 am an s u rt rw = addF (addF (addF (addF (addF [] (am || decide (0 < l1.length)) nmM (txB l1 am)) (u != -1) nmU (D.txV u)) (an || decide (0 < l2.length)) nmN (txB l2 an)) (s != -1) nmS (D.txV s)) (someR rt rw) nmR (spB rt rw) := rfl
  unfold parD
  rw [e, a1, a2, a3, a4, a5, tg_back h1, tg_back h2, tk_back h3, tk_back h4, rg_back h5]
  simp
end Go.Proofs.YtomcoacndppkcaaGreatDoor

namespace Go.Proofs.YtomcoacndppkcaaGreatDoor
open Go Go.RowKit
open T (Tg TgAt IsTg okS)
open F (FdAt OwnX IsTx TxAt)

set_option maxHeartbeats 4000000 in
set_option maxRecDepth 20000 in
theorem rsame8_at (A1 A2 B1 B2 : Option Addr) (m1 m2 c1 c2 d1 d2 : Nat) (am an : Bool) (s u : Int) (rt : ByteArray) (rw : Bool) (l1 l2 : List Tg) (w : World) (N1 : l1.length = m1) (N2 : l2.length = m2) (s1 : TgAt w w.heap.size A1 l1) (s2 : TgAt w w.heap.size A2 l2) (t1 : TgAt w w.heap.size B1 l1) (t2 : TgAt w w.heap.size B2 l2) (q1 : l1.length ≤ 1000000) (q2 : l2.length ≤ 1000000) :
    Calls Tryz.prog 10 #[cdV A1 A2 m1 c1 m2 c2 am an s u rt rw, cdV B1 B2 m1 d1 m2 d2 am an s u rt rw] w fun e w' => e = .returned (.bool true) ∧ Below w.heap.size w w' := by
  have hA : ∀ W, Below w.heap.size w W → Calls Tryz.prog 26 #[.slice A1 m1 c1, .slice B1 m1 d1] W fun e w' => e = .returned (.bool true) ∧ Below W.heap.size W w' := fun W e => rtags8_yes A1 B1 m1 c1 d1 l1 W N1 (by omega) (s1.below e e.size) (t1.below e e.size)
  have hB : ∀ W, Below w.heap.size w W → Calls Tryz.prog 26 #[.slice A2 m2 c2, .slice B2 m2 d2] W fun e w' => e = .returned (.bool true) ∧ Below W.heap.size W w' := fun W e => rtags8_yes A2 B2 m2 c2 d2 l2 W N2 (by omega) (s2.below e e.size) (t2.below e e.size)
  clear s1 s2 t1 t2 N1 N2 q1 q2
  have e1 : (rt.toList == rt.toList) = true := by simp
  have e2 : (rw == rw) = true := by simp
  have e3 : (am == am) = true := by simp
  have e4 : (an == an) = true := by simp
  have e5 : (s == s) = true := by simp
  have e6 : (u == u) = true := by simp
  have FB0 : Below w.heap.size w ((w.alloc (.cells #[.slice A1 m1 c1, .slice A2 m2 c2, .bool am, .bool an, .int .i64 s, .int .i64 u, .string rt, .bool rw] 29)).alloc (.cells #[.slice B1 m1 d1, .slice B2 m2 d2, .bool am, .bool an, .int .i64 s, .int .i64 u, .string rt, .bool rw] 29)) := by go_grown
  go_enter Tryz.func10, Tryz.ntmps10
  go_wp2_with fail
  with_reducible refine (hA _ FB0).mono ?_
  rintro e w1 ⟨rfl, hb1⟩
  obtain ⟨x0, x1, x2, x3, x4, x5, x6, x7, y0, y1, y2, y3, y4, y5, y6, y7, z1, z2, B1⟩ := cd2_cells hb1
  go_wp2_with fail
  with_reducible refine (hB _ B1).mono ?_
  rintro e w2 ⟨rfl, hb2⟩
  have C2 := hb1.trans (hb2.mono hb1.size)
  clear x0 x1 x2 x3 x4 x5 x6 x7 y0 y1 y2 y3 y4 y5 y6 y7
  obtain ⟨x0, x1, x2, x3, x4, x5, x6, x7, y0, y1, y2, y3, y4, y5, y6, y7, z1, z2, B2⟩ := cd2_cells C2
  go_wp2_with fail
  go_ret
  exact ⟨rfl, B2⟩

theorem gsum_add (l : List F.Fd) (p : Bool) (n v : ByteArray) : F.gsum (addF l p n v) ≤ F.gsum l + n.size + v.size := by
  unfold addF
  split
  · rw [F.gsum_append, F.gsum_one]; simp only; omega
  · omega
theorem txB_size {l : List Tg} {any : Bool} (h : l.length ≤ 40) : (txB l any).size ≤ 4300 := by
  rw [T.ba_size]
  unfold T.txtD
  split
  · simp
  · split
    · have := T.textsL_len l; omega
    · simp
theorem txV_size (t : Int) : (D.txV t).size ≤ 29 := by
  unfold D.txV
  split
  · unfold D.txB; rw [D.text_size]; omega
  · decide
theorem spB_size (rt : ByteArray) (rw : Bool) : (spB rt rw).size ≤ 104 := by
  rw [T.ba_size]; exact T.spell_len _
theorem fdL_small {l1 l2 : List Tg} (h1 : l1.length ≤ 40) (h2 : l2.length ≤ 40) (am an : Bool) (s u : Int) (rt : ByteArray) (rw : Bool) :
    (fdL l1 l2 am an s u rt rw).length ≤ 5 ∧ F.gsum (fdL l1 l2 am an s u rt rw) ≤ 50000 := by
  have e0 : F.gsum ([] : List F.Fd) = 0 := rfl
  have z1 : nmM.size = 8 := rfl
  have z2 : nmU.size = 19 := rfl
  have z3 : nmN.size = 13 := rfl
  have z4 : nmS.size = 17 := rfl
  have z5 : nmR.size = 8 := rfl
  have a1 := txB_size (any := am) h1
  have a2 := txB_size (any := an) h2
  have a3 := txV_size s
  have a4 := txV_size u
  have a5 := spB_size rt rw
  unfold fdL
  have f1 := addF_len [] (am || decide (0 < l1.length)) nmM (txB l1 am)
  have g1 := gsum_add [] (am || decide (0 < l1.length)) nmM (txB l1 am)
  generalize addF [] (am || decide (0 < l1.length)) nmM (txB l1 am) = L1 at *
  have f2 := addF_len L1 (u != -1) nmU (D.txV u)
  have g2 := gsum_add L1 (u != -1) nmU (D.txV u)
  generalize addF L1 (u != -1) nmU (D.txV u) = L2 at *
  have f3 := addF_len L2 (an || decide (0 < l2.length)) nmN (txB l2 an)
  have g3 := gsum_add L2 (an || decide (0 < l2.length)) nmN (txB l2 an)
  generalize addF L2 (an || decide (0 < l2.length)) nmN (txB l2 an) = L3 at *
  have f4 := addF_len L3 (s != -1) nmS (D.txV s)
  have g4 := gsum_add L3 (s != -1) nmS (D.txV s)
  generalize addF L3 (s != -1) nmS (D.txV s) = L4 at *
  have f5 := addF_len L4 (someR rt rw) nmR (spB rt rw)
  have g5 := gsum_add L4 (someR rt rw) nmR (spB rt rw)
  simp only [List.length_nil] at f1
  omega
end Go.Proofs.YtomcoacndppkcaaGreatDoor

