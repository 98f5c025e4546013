/-
  Mathematics of sets' texts: pieces between commas, the set that a text says.
-/
import Derived.Test.YthbjhpfgfpkppaaGreatDoorRX
import Derived.Test.YthbjhpfgfpkppaaGreatDoorRef01G
import Derived.Lib.SplitLaws
import Derived.Lib.Join
namespace Go.Proofs.YthbjhpfgfpkppaaGreatDoor
open Go

def txL (x : Sp) : List UInt8 := textL x.1 x.2
def setL (c : List Sp) : List UInt8 := Lib.join (c.map txL) [44]
def noneT : List UInt8 := [110, 111, 110, 101]
/-- a set's text -/
def setT (c : List Sp) : List UInt8 := if c = [] then noneT else setL c

/-- the pieces between commas -/
def pieces : List UInt8 → List (List UInt8)
  | [] => [[]]
  | x :: r => if x = 44 then [] :: pieces r else match pieces r with
    | [] => [[x]]
    | h :: t => (x :: h) :: t
theorem pieces_ne : ∀ s, pieces s ≠ []
  | [] => by simp [pieces]
  | x :: r => by
    unfold pieces
    split
    · simp
    · split <;> simp
theorem joinTail_cons (x : List UInt8) (r : List (List UInt8)) : Lib.joinTail [44] (x :: r) = 44 :: Lib.join (x :: r) [44] := by
  rw [Lib.join_cons]; simp [Lib.joinTail]
theorem join_more (x y : List UInt8) (r : List (List UInt8)) : Lib.join (x :: y :: r) [44] = x ++ 44 :: Lib.join (y :: r) [44] := by
  rw [Lib.join_cons, joinTail_cons]
theorem join_pieces : ∀ s, Lib.join (pieces s) [44] = s
  | [] => by simp [pieces, Lib.join_one]
  | x :: r => by
    have ih := join_pieces r
    have hn := pieces_ne r
    unfold pieces
    by_cases h : x = 44
    · rw [if_pos h]
      obtain ⟨p, t, hp⟩ : ∃ p t, pieces r = p :: t := by
        match h : pieces r with
        | [] => exact absurd h hn
        | p :: t => exact ⟨p, t, rfl⟩
      rw [hp] at ih ⊢
      rw [join_more, ih, h]; rfl
    · rw [if_neg h]
      match hp : pieces r with
      | [] => exact absurd hp hn
      | p :: t =>
        rw [hp] at ih
        simp only
        rw [Lib.join_cons] at ih ⊢
        rw [List.cons_append, ih]
theorem pieces_one : ∀ t : List UInt8, 44 ∉ t → pieces t = [t]
  | [], _ => rfl
  | x :: r, h => by
    have hx : x ≠ 44 := fun e => h (by simp [e])
    unfold pieces
    rw [if_neg hx, pieces_one r (fun k => h (by simp [k]))]
theorem pieces_app : ∀ (t r : List UInt8), 44 ∉ t → pieces (t ++ 44 :: r) = t :: pieces r
  | [], r, _ => by simp [pieces]
  | x :: t, r, h => by
    have hx : x ≠ 44 := fun e => h (by simp [e])
    rw [List.cons_append]
    conv => lhs; unfold pieces
    rw [if_neg hx, pieces_app t r (fun k => h (by simp [k]))]
theorem pieces_join : ∀ l : List (List UInt8), l ≠ [] → (∀ t ∈ l, 44 ∉ t) → pieces (Lib.join l [44]) = l
  | [], h, _ => absurd rfl h
  | [t], _, h => by rw [Lib.join_one]; exact pieces_one t (h t (by simp))
  | t :: u :: r, _, h => by
    rw [join_more, pieces_app _ _ (h t (by simp)), pieces_join (u :: r) (by simp) (fun k hk => h k (by simp at hk ⊢; exact Or.inr hk))]

theorem index44 : ∀ s : List UInt8, (44 ∉ s ∧ Lib.index s [44] = -1) ∨ (∃ t r, s = t ++ 44 :: r ∧ 44 ∉ t ∧ Lib.index s [44] = t.length)
  | [] => Or.inl ⟨by simp, by simp [Lib.index]⟩
  | x :: s => by
    by_cases h : x = 44
    · subst h
      exact Or.inr ⟨[], s, rfl, by simp, by simp [Lib.index, List.isPrefixOf]⟩
    · have hp : ([44] : List UInt8).isPrefixOf (x :: s) = false := by
        simp only [List.isPrefixOf, Bool.and_eq_false_iff, beq_eq_false_iff_ne]
        exact Or.inl (Ne.symm h)
      rcases index44 s with ⟨h1, h2⟩ | ⟨t, r, h1, h2, h3⟩
      · refine Or.inl ⟨by simp [Ne.symm h, h1], ?_⟩
        rw [Lib.index, hp, h2]; rfl
      · refine Or.inr ⟨x :: t, r, by rw [h1]; rfl, by simp [Ne.symm h, h2], ?_⟩
        rw [Lib.index, hp, h3]
        have : ¬ ((t.length : Int) == -1) = true := fun e => by have := beq_iff_eq.1 e; omega
        rw [if_neg (by simp), if_neg this]; simp
theorem split_pieces : ∀ (n : Nat) (s : List UInt8), s.length ≤ n → Lib.splitK [44] 0 (Lib.count s [44]) s = pieces s := by
  intro n
  induction n with
  | zero =>
    intro s hs
    have : s = [] := List.eq_nil_of_length_eq_zero (by omega)
    subst this
    rw [Lib.count_miss (by simp [Lib.index])]; rfl
  | succ n ih =>
    intro s hs
    rcases index44 s with ⟨h1, h2⟩ | ⟨t, r, h1, h2, h3⟩
    · rw [Lib.count_miss h2, pieces_one s h1]; rfl
    · have hd : s.drop (t.length + 1) = r := by rw [h1, ← List.drop_drop, List.drop_left' rfl]; rfl
      have ht : s.take t.length = t := by rw [h1, List.take_left' rfl]
      rw [Lib.count_hit (by simp) h3, Nat.add_comm 1, Lib.splitK, h3]
      have hm : ¬ ((t.length : Int) == -1) = true := fun e => by have := beq_iff_eq.1 e; omega
      rw [if_neg hm, show ((t.length : Int)).toNat = t.length by omega, Nat.add_zero, ht]
      show t :: Lib.splitK [44] 0 (Lib.count (s.drop (t.length + 1)) [44]) (s.drop (t.length + 1)) = _
      rw [hd, ih r (by rw [h1] at hs; simp at hs; omega)]
      conv => rhs; rw [h1, pieces_app _ _ h2]
theorem splitB_pieces (s : ByteArray) : (Lib.splitB ⟨#[44]⟩ 0 (Lib.countB s ⟨#[44]⟩) s).map (·.data.toList) = pieces s.data.toList := by
  rw [Lib.splitB_data]
  exact split_pieces _ _ (Nat.le_refl _)

theorem itoa_no44 {a : Int} (h : 0 ≤ a) : 44 ∉ Lib.itoa a := fun k => by have := itoa_dig h 44 k; unfold isDig at this; simp at this
theorem textL_no44 {a b : Int} (h : rtB a b = true) : 44 ∉ textL a b := by
  have h0 := rtB_t h
  rw [textL_eq h]
  intro k
  rcases List.mem_append.1 k with k | k
  · exact itoa_no44 h0.1 k
  · rcases List.mem_cons.1 k with k | k
    · exact absurd k (by decide)
    · unfold tailL at k
      split at k
      · cases k
      · exact itoa_no44 (by omega) k
theorem refP_some {p : List UInt8} {x : Sp} (h : refP p = some x) : rtB x.1 x.2 = true ∧ txL x = p := by
  by_cases hn : ∀ a b, rtB a b = true → p ≠ textL a b
  · rw [refP_none hn] at h; cases h
  · have ⟨a, hn⟩ := Classical.not_forall.1 hn
    have ⟨b, hn⟩ := Classical.not_forall.1 hn
    have hr : rtB a b = true := Classical.byContradiction fun k => hn fun q => absurd q k
    have hp : p = textL a b := Classical.byContradiction fun k => hn fun _ => k
    rw [hp, refP_text hr] at h
    injection h with h
    subst h
    exact ⟨hr, hp.symm⟩
def goS : List (List UInt8) → Option (List Sp)
  | [] => some []
  | p :: r => match refP p with
    | none => none
    | some x => (goS r).map (x :: ·)
theorem goS_some : ∀ {ps : List (List UInt8)} {l : List Sp}, goS ps = some l → l.map txL = ps ∧ ∀ x ∈ l, rtB x.1 x.2 = true
  | [], l, h => by simp [goS] at h; subst h; simp
  | p :: r, l, h => by
    unfold goS at h
    split at h
    · cases h
    · rename_i x hx
      obtain ⟨m, hm, rfl⟩ := Option.map_eq_some_iff.1 h
      obtain ⟨h1, h2⟩ := goS_some hm
      obtain ⟨h3, h4⟩ := refP_some hx
      refine ⟨by rw [List.map_cons, h4, h1], fun y hy => ?_⟩
      rcases List.mem_cons.1 hy with rfl | hy
      · exact h3
      · exact h2 y hy
theorem goS_text : ∀ {l : List Sp}, (∀ x ∈ l, rtB x.1 x.2 = true) → goS (l.map txL) = some l
  | [], _ => rfl
  | x :: r, h => by
    rw [List.map_cons]
    unfold goS
    have : refP (txL x) = some x := refP_text (h x (by simp))
    rw [this]
    simp only
    rw [goS_text (fun y hy => h y (by simp [hy]))]; rfl
theorem goS_cons (p : List UInt8) (r : List (List UInt8)) : goS (p :: r) = match refP p with | none => none | some x => (goS r).map (x :: ·) := rfl
/-- what a piece more adds -/
def goA (ps : List (List UInt8)) (acc : List Sp) : Option (List Sp) := (goS ps).map (acc ++ ·)
theorem goA_nil (acc : List Sp) : goA [] acc = some acc := by simp [goA, goS]
theorem goA_some {p : List UInt8} {r : List (List UInt8)} {acc : List Sp} {x : Sp} (h : refP p = some x) : goA (p :: r) acc = goA r (acc ++ [x]) := by
  unfold goA
  rw [goS_cons, h]
  simp only
  cases goS r <;> simp
theorem goA_none {p : List UInt8} {r : List (List UInt8)} {acc : List Sp} (h : refP p = none) : goA (p :: r) acc = none := by
  unfold goA; rw [goS_cons, h]; rfl
theorem goA_start (ps : List (List UInt8)) : goA ps [] = goS ps := by unfold goA; cases goS ps <;> simp

theorem solid_rt {x : Sp} (h : Solid x) : rtB x.1 x.2 = true := rtB_mk ⟨h.1, by have := h.2.1; omega, h.2.2⟩
theorem canon_rt {c : List Sp} (h : Canon c) : ∀ x ∈ c, rtB x.1 x.2 = true := fun x hx => solid_rt (h.1 x hx)
theorem norm_canon {c : List Sp} (h : Canon c) : normL c = c := (Norm.is ⟨h, fun _ => Iff.rfl⟩).symm
theorem normL_canon (l : List Sp) : Canon (normL l) := (normL_norm l).1
theorem setL_pieces {c : List Sp} (h : c ≠ []) (hr : ∀ x ∈ c, rtB x.1 x.2 = true) : pieces (setL c) = c.map txL :=
  pieces_join _ (by simpa using h) fun t ht => by
    obtain ⟨x, hx, rfl⟩ := List.mem_map.1 ht
    exact textL_no44 (hr x hx)
theorem setL_none {c : List Sp} (h : c ≠ []) (hr : ∀ x ∈ c, rtB x.1 x.2 = true) : setL c ≠ noneT := fun e => by
  have hp := setL_pieces h hr
  rw [e] at hp
  match c, h with
  | x :: r, _ =>
    have : pieces noneT = [noneT] := by decide
    rw [this] at hp
    simp only [List.map_cons, List.cons.injEq] at hp
    have h1 := hr x (by simp)
    have h2 : textL x.1 x.2 = noneT := hp.1.symm
    have hd := itoa_dig (rtB_t h1).1
    have hne := itoa_ne (rtB_t h1).1
    rw [textL_eq h1] at h2
    match hi : Lib.itoa x.1 with
    | [] => exact hne hi
    | d :: t =>
      rw [hi] at h2 hd
      have h3 : d = 110 := by
        unfold noneT at h2
        simp only [List.cons_append, List.cons.injEq] at h2
        exact h2.1
      have := hd d (by simp)
      subst h3
      unfold isDig at this; simp at this

/-- the set that a text says -/
noncomputable def resS (s : List UInt8) : Option (List Sp) :=
  if s = noneT then some [] else match goS (pieces s) with
    | none => none
    | some l => if setT (normL l) = s then some (normL l) else none
theorem resS_text {c : List Sp} (h : Canon c) : resS (setT c) = some c := by
  unfold resS setT
  by_cases h0 : c = []
  · rw [if_pos h0, if_pos rfl, h0]
  · rw [if_neg h0, if_neg (setL_none h0 (canon_rt h)), setL_pieces h0 (canon_rt h), goS_text (canon_rt h)]
    simp only
    rw [norm_canon h, if_neg h0, if_pos rfl]
theorem resS_back {s : List UInt8} {c : List Sp} (h : resS s = some c) : Canon c ∧ setT c = s := by
  unfold resS at h
  split at h
  · rename_i e
    injection h with h
    subst h
    exact ⟨Canon.nil, by rw [e]; rfl⟩
  · split at h
    · cases h
    · split at h
      · rename_i e
        injection h with h
        subst h
        exact ⟨normL_canon _, e⟩
      · cases h
theorem goS_ne {s : List UInt8} {l : List Sp} (h : goS (pieces s) = some l) : l ≠ [] := fun e => by
  have := (goS_some h).1
  rw [e] at this
  exact pieces_ne s this.symm
theorem res_ref {s : List UInt8} {l : List Sp} (hn : s ≠ noneT) (h : goS (pieces s) = some l) : resS s = if l = normL l then some l else none := by
  have hl := goS_ne h
  obtain ⟨hm, hr⟩ := goS_some h
  unfold resS
  rw [if_neg hn, h]
  simp only
  by_cases hc : l = normL l
  · rw [if_pos hc, ← hc, if_pos (by unfold setT setL; rw [if_neg hl, hm, join_pieces])]
  · rw [if_neg hc, if_neg]
    intro e
    by_cases h0 : normL l = []
    · rw [h0] at e; exact hn e.symm
    · unfold setT at e
      rw [if_neg h0] at e
      have hp := setL_pieces h0 (canon_rt (normL_canon l))
      rw [e] at hp
      rw [hp, goS_text (canon_rt (normL_canon l))] at h
      injection h with h
      exact hc h.symm
theorem res_none {s : List UInt8} (hn : s ≠ noneT) (h : goS (pieces s) = none) : resS s = none := by
  unfold resS; rw [if_neg hn, h]
theorem res_some {s : List UInt8} {l : List Sp} (hn : s ≠ noneT) (h : goS (pieces s) = some l) : resS s = if setT (normL l) = s then some (normL l) else none := by
  unfold resS; rw [if_neg hn, h]
def resC (o : Option (List Sp)) : List Sp := o.getD []
def resE (o : Option (List Sp)) : Int := if o = none then 2 else 0
theorem setL_len : ∀ c : List Sp, (setL c).length ≤ 44 * c.length
  | [] => by simp [setL, Lib.join_nil]
  | [x] => by
    have := textL_len (a := x.1) (b := x.2)
    unfold setL; rw [List.map_cons, List.map_nil, Lib.join_one]
    show (textL x.1 x.2).length ≤ _
    simp; omega
  | x :: y :: r => by
    have := textL_len (a := x.1) (b := x.2)
    have ih := setL_len (y :: r)
    unfold setL at ih ⊢
    rw [List.map_cons, List.map_cons, join_more]
    rw [List.map_cons] at ih
    simp only [List.length_append, List.length_cons] at ih ⊢
    have : (txL x).length ≤ 43 := this
    omega
end Go.Proofs.YthbjhpfgfpkppaaGreatDoor
