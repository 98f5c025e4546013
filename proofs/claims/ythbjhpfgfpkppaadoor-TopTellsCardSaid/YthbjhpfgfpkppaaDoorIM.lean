/-
  Plain mathematics of what is told of bytes: lists of runs, of which the same tell the same just if they are one; Put and Drop of them.
-/
import Derived.RowKit
namespace Go.Proofs.YthbjhpfgfpkppaaDoor

/-- a run: from, to, what is told -/
abbrev Rn := Int × Int × Int
abbrev opnI : Int := 4611686018427387904
/-- what a list tells of a byte -/
def tell : List Rn → Int → Option Int
  | [], _ => none
  | r :: l, p => if r.1 ≤ p ∧ p < r.2.1 then some r.2.2 else tell l p
/-- longest runs, rising, behind lo, of which t was told -/
def Good : Int → Option Int → List Rn → Prop
  | _, _, [] => True
  | lo, t, r :: l => lo ≤ r.1 ∧ r.1 < r.2.1 ∧ r.2.1 ≤ opnI ∧ (r.1 = lo → t ≠ some r.2.2) ∧ Good r.2.1 (some r.2.2) l
def eTo (lo : Int) : List Rn → Int
  | [] => lo
  | r :: l => eTo r.2.1 l
def eTd (t : Option Int) : List Rn → Option Int
  | [] => t
  | r :: l => eTd (some r.2.2) l

theorem good_app : ∀ {lo : Int} {t : Option Int} {x y : List Rn}, Good lo t (x ++ y) ↔ Good lo t x ∧ Good (eTo lo x) (eTd t x) y
  | _, _, [], _ => by simp [Good, eTo, eTd]
  | _, _, r :: x, y => by
    simp only [List.cons_append, Good, eTo, eTd]
    rw [good_app (x := x)]
    simp only [and_assoc]
theorem tell_app : ∀ {x y : List Rn} {p : Int}, tell (x ++ y) p = (tell x p).or (tell y p)
  | [], _, _ => by simp [tell]
  | r :: x, y, p => by
    simp only [List.cons_append, tell]
    split
    · rfl
    · exact tell_app
theorem eTo_app : ∀ {lo : Int} {x y : List Rn}, eTo lo (x ++ y) = eTo (eTo lo x) y
  | _, [], _ => rfl
  | _, _ :: x, _ => eTo_app (x := x)
theorem eTd_app : ∀ {t : Option Int} {x y : List Rn}, eTd t (x ++ y) = eTd (eTd t x) y
  | _, [], _ => rfl
  | _, _ :: x, _ => eTd_app (x := x)
theorem good_end : ∀ {lo : Int} {t : Option Int} {x : List Rn}, Good lo t x → lo ≤ eTo lo x
  | _, _, [], _ => Int.le_refl _
  | _, _, r :: x, h => by
    have := good_end h.2.2.2.2
    simp only [eTo]
    have h1 := h.1; have h2 := h.2.1
    omega
theorem good_mem : ∀ {lo : Int} {t : Option Int} {x : List Rn}, Good lo t x → ∀ r ∈ x, lo ≤ r.1 ∧ r.1 < r.2.1 ∧ r.2.1 ≤ opnI ∧ r.2.1 ≤ eTo lo x
  | _, _, [], _, _, hr => by cases hr
  | lo, t, r :: x, h, s, hs => by
    have e := good_end h.2.2.2.2
    simp only [eTo]
    rcases List.mem_cons.1 hs with rfl | hs
    · exact ⟨h.1, h.2.1, h.2.2.1, e⟩
    · have := good_mem h.2.2.2.2 s hs
      have h1 := h.1; have h2 := h.2.1
      omega
theorem tell_none {l : List Rn} {p : Int} (h : ∀ r ∈ l, ¬ (r.1 ≤ p ∧ p < r.2.1)) : tell l p = none := by
  induction l with
  | nil => rfl
  | cons r l ih =>
    simp only [tell, if_neg (h r (List.mem_cons_self ..))]
    exact ih fun s hs => h s (List.mem_cons_of_mem _ hs)
theorem tell_low {lo : Int} {t : Option Int} {l : List Rn} (h : Good lo t l) {p : Int} (hp : p < lo) : tell l p = none :=
  tell_none fun r hr => by have := good_mem h r hr; omega
theorem tell_some {l : List Rn} {p v : Int} (h : tell l p = some v) : ∃ r ∈ l, r.1 ≤ p ∧ p < r.2.1 ∧ r.2.2 = v := by
  induction l with
  | nil => cases h
  | cons r l ih =>
    simp only [tell] at h
    split at h
    · rename_i c
      exact ⟨r, List.mem_cons_self .., c.1, c.2, Option.some.inj h⟩
    · obtain ⟨s, hs, k⟩ := ih h
      exact ⟨s, List.mem_cons_of_mem _ hs, k⟩
theorem tell_head (r : Rn) (l : List Rn) (h : r.1 < r.2.1) : tell (r :: l) r.1 = some r.2.2 := by
  simp only [tell]; rw [if_pos ⟨Int.le_refl _, h⟩]
theorem good_lt {lo lo' : Int} {t t' : Option Int} {l : List Rn} (h : Good lo t l) (hl : lo' < lo) : Good lo' t' l := by
  cases l with
  | nil => trivial
  | cons r l => exact ⟨by have := h.1; omega, h.2.1, h.2.2.1, fun e => by have := h.1; omega, h.2.2.2.2⟩
theorem good_from {lo lo' b : Int} {t t' : Option Int} {l : List Rn} (h : Good lo t l) (hb : ∀ r ∈ l, b ≤ r.1) (hl : lo' < b) : Good lo' t' l := by
  cases l with
  | nil => trivial
  | cons r l => exact ⟨by have := hb r (List.mem_cons_self ..); omega, h.2.1, h.2.2.1, fun e => by have := hb r (List.mem_cons_self ..); omega, h.2.2.2.2⟩
/-- behind the same end, where what it tells isn't touched -/
theorem good_touch {lo lo' : Int} {t t' : Option Int} {l : List Rn} (h : Good lo t l) (hb : ∀ r ∈ l, lo' ≤ r.1) (hn : ∀ r l', l = r :: l' → r.1 = lo' → t' ≠ some r.2.2) : Good lo' t' l := by
  cases l with
  | nil => trivial
  | cons r l => exact ⟨hb r (List.mem_cons_self ..), h.2.1, h.2.2.1, hn r l rfl, h.2.2.2.2⟩

theorem good_unique : ∀ {lo : Int} {t t' : Option Int} {l m : List Rn}, Good lo t l → Good lo t' m → (∀ p, lo ≤ p → tell l p = tell m p) → l = m
  | _, _, _, [], [], _, _, _ => rfl
  | _, _, _, [], s :: m, _, hm, h => by
    have := h s.1 hm.1
    rw [tell_head s m hm.2.1] at this; cases this
  | _, _, _, r :: l, [], hl, _, h => by
    have := h r.1 hl.1
    rw [tell_head r l hl.2.1] at this; cases this
  | lo, t, t', (r1, r2, r3) :: l, (s1, s2, s3) :: m, hl, hm, h => by
    have first : ∀ {lo : Int} {t : Option Int} {a b c : Int} {l : List Rn} {p v : Int}, Good lo t ((a, b, c) :: l) → tell ((a, b, c) :: l) p = some v → a ≤ p := by
      intro lo t a b c l p v hg ht
      refine Int.not_lt.1 fun hlt => ?_
      have hg' : Good a none ((a, b, c) :: l) := ⟨Int.le_refl _, hg.2.1, hg.2.2.1, fun _ => by simp, hg.2.2.2.2⟩
      rw [tell_low hg' hlt] at ht
      cases ht
    obtain ⟨a1, a2, a3, a4, a5⟩ := hl
    obtain ⟨b1, b2, b3, b4, b5⟩ := hm
    simp only at a1 a2 a3 a5 b1 b2 b3 b5
    have e1 : r1 = s1 := by
      have x := h r1 a1
      have y := h s1 b1
      rw [tell_head (r1, r2, r3) l a2] at x
      rw [tell_head (s1, s2, s3) m b2] at y
      have := first ⟨b1, b2, b3, b4, b5⟩ x.symm
      have := first ⟨a1, a2, a3, a4, a5⟩ y
      omega
    subst e1
    have e3 : r3 = s3 := by
      have x := h r1 a1
      rw [tell_head (r1, r2, r3) l a2, tell_head (r1, s2, s3) m b2] at x
      exact Option.some.inj x
    subst e3
    have cut : ∀ {x y : List Rn} {p q v : Int}, Good p (some v) x → p < q → tell x p = some v → False := by
      intro x y p q v hx hq ht
      cases x with
      | nil => cases ht
      | cons u x =>
        obtain ⟨u1, u2, u3⟩ := u
        have f := first hx ht
        have g := hx.1
        simp only at g
        have e : u1 = p := by omega
        subst e
        rw [tell_head (u1, u2, u3) x hx.2.1] at ht
        exact hx.2.2.2.1 rfl ht.symm
    have e2 : r2 = s2 := by
      rcases Int.lt_trichotomy r2 s2 with hlt | he | hgt
      · exfalso
        have x := h r2 (by omega)
        simp only [tell] at x
        rw [if_neg (by omega), if_pos (by omega)] at x
        exact cut (y := m) a5 hlt x
      · exact he
      · exfalso
        have x := h s2 (by omega)
        simp only [tell] at x
        rw [if_pos (by omega), if_neg (by omega)] at x
        exact cut (y := l) b5 hgt x.symm
    subst e2
    rw [good_unique a5 b5 fun p hp => by
      have x := h p (by omega)
      simp only [tell] at x
      rwa [if_neg (by omega), if_neg (by omega)] at x]

/-- the first of M has a byte from a on: what of it is ahead of a -/
def leftA (a : Int) : List Rn → List Rn
  | [] => []
  | r :: _ => if r.1 < a then [(r.1, a, r.2.2)] else []
/-- what of the last one is from b on -/
def leftB (b : Int) (M : List Rn) : List Rn :=
  match M.getLast? with
  | none => []
  | some r => if b < r.2.1 then [(b, r.2.1, r.2.2)] else []
/-- the pieces of a list about [a, b) -/
structure Cut3 (a b : Int) (X M Z : List Rn) : Prop where
  x : ∀ r ∈ X, r.2.1 ≤ a
  m1 : ∀ r ∈ M, a < r.2.1
  m2 : ∀ r ∈ M, r.1 < b
  z : ∀ r ∈ Z, b ≤ r.1

theorem last_of {M : List Rn} (h : M ≠ []) : ∃ N r, M = N ++ [r] ∧ M.getLast? = some r := by
  rcases List.eq_nil_or_concat M with e | ⟨N, r, rfl⟩
  · exact absurd e h
  · exact ⟨N, r, by rw [List.concat_eq_append], by simp⟩

theorem drop_good {a b : Int} {X M Z : List Rn} (hab : a < b) (ha : 0 ≤ a) (hc : Cut3 a b X M Z) (hg : Good 0 none (X ++ (M ++ Z))) : Good 0 none (X ++ (leftA a M ++ leftB b M ++ Z)) := by
  rw [good_app] at hg ⊢
  obtain ⟨hX, hMZ⟩ := hg
  refine ⟨hX, ?_⟩
  have hxa : eTo 0 X ≤ a := by
    rcases List.eq_nil_or_concat X with rfl | ⟨N, r, rfl⟩
    · exact ha
    · rw [List.concat_eq_append, eTo_app]; exact hc.x r (by simp)
  rw [good_app] at hMZ
  obtain ⟨hM, hZ⟩ := hMZ
  by_cases hn : M = []
  · subst hn; simpa [leftA, leftB, eTo, eTd] using hZ
  · obtain ⟨N, r, rfl, hlast⟩ := last_of hn
    have hB : leftB b (N ++ [r]) = if b < r.2.1 then [(b, r.2.1, r.2.2)] else [] := by unfold leftB; rw [hlast]
    rw [hB]
    have hr := good_mem hM r (by simp)
    have hrb := hc.m2 r (by simp)
    have hZ' : Good r.2.1 (some r.2.2) Z := by simpa [eTo_app, eTd_app, eTo, eTd] using hZ
    have tailB : ∀ (lo : Int) (t : Option Int), lo ≤ a → Good lo t ((if b < r.2.1 then [(b, r.2.1, r.2.2)] else []) ++ Z) := fun lo t hlo => by
      split
      · exact ⟨by show lo ≤ b; omega, by assumption, hr.2.2.1, fun e => by exfalso; have : b = lo := e; omega, hZ'⟩
      · exact good_from hZ' hc.z (by omega)
    cases hNr : N ++ [r] with
    | nil => simp at hNr
    | cons u l =>
      rw [hNr] at hM
      simp only [leftA]
      split
      · rename_i hua
        have hu := hM
        exact ⟨hu.1, hua, by have := hc.m1 u (by rw [hNr]; exact List.mem_cons_self ..); have := hu.2.2.1; show a ≤ opnI; omega, hu.2.2.2.1, by simpa using tailB a (some u.2.2) (Int.le_refl _)⟩
      · simpa using tailB _ _ hxa
theorem or_assoc' (x y z : Option Int) : (x.or y).or z = x.or (y.or z) := by cases x <;> rfl
theorem drop_tell {a b : Int} {X M Z : List Rn} (hab : a < b) (hc : Cut3 a b X M Z) {lo : Int} {t : Option Int} (hM : Good lo t M) (p : Int) :
    tell (X ++ (leftA a M ++ leftB b M ++ Z)) p = if a ≤ p ∧ p < b then none else tell (X ++ (M ++ Z)) p := by
  simp only [tell_app]
  have tX : a ≤ p → tell X p = none := fun h => tell_none fun r hr => by have := hc.x r hr; omega
  have tZ : p < b → tell Z p = none := fun h => tell_none fun r hr => by have := hc.z r hr; omega
  by_cases hn : M = []
  · subst hn
    simp only [leftA, leftB, List.getLast?_nil, tell, Option.none_or]
    split
    · rename_i h; rw [tX h.1, tZ h.2]; rfl
    · rfl
  · obtain ⟨N, r, rfl, hlast⟩ := last_of hn
    have hB : leftB b (N ++ [r]) = if b < r.2.1 then [(b, r.2.1, r.2.2)] else [] := by unfold leftB; rw [hlast]
    rw [hB]
    have hr2 := hc.m2 r (by simp)
    have hN := (good_app.1 hM).1
    have hR := (good_app.1 hM).2
    have tB : tell (if b < r.2.1 then [(b, r.2.1, r.2.2)] else []) p = if b ≤ p ∧ p < r.2.1 then some r.2.2 else none := by
      split
      · simp [tell]
      · rw [if_neg (by omega)]; rfl
    have tM : b ≤ p → tell (N ++ [r]) p = if b ≤ p ∧ p < r.2.1 then some r.2.2 else none := fun h => by
      rw [tell_app, tell_none (l := N) fun s hs => by have := good_mem hN s hs; have := hR.1; omega]
      simp only [tell, Option.none_or]
      by_cases h2 : p < r.2.1
      · rw [if_pos ⟨by omega, h2⟩, if_pos ⟨h, h2⟩]
      · rw [if_neg (by omega), if_neg (by omega)]
    cases hNr : N ++ [r] with
    | nil => simp at hNr
    | cons u l =>
      have hua := hc.m1 u (by rw [hNr]; exact List.mem_cons_self ..)
      have tA : tell (leftA a (u :: l)) p = if u.1 ≤ p ∧ p < a then some u.2.2 else none := by
        simp only [leftA]
        split
        · simp [tell]
        · rw [if_neg (by omega)]; rfl
      rw [tA, tB]
      by_cases h1 : a ≤ p
      · rw [tX h1, if_neg (by omega : ¬ (u.1 ≤ p ∧ p < a))]
        by_cases h2 : p < b
        · rw [if_neg (by omega : ¬ (b ≤ p ∧ p < r.2.1)), if_pos (⟨h1, h2⟩ : a ≤ p ∧ p < b), tZ h2]; rfl
        · rw [if_neg (by omega : ¬ (a ≤ p ∧ p < b)), ← hNr, tM (by omega)]; rfl
      · rw [if_neg (by omega : ¬ (b ≤ p ∧ p < r.2.1)), if_neg (by omega : ¬ (a ≤ p ∧ p < b)), tZ (by omega)]
        have tl : tell (u :: l) p = if u.1 ≤ p ∧ p < a then some u.2.2 else none := by
          rw [hNr] at hM
          simp only [tell]
          by_cases h3 : u.1 ≤ p
          · rw [if_pos ⟨h3, by omega⟩, if_pos ⟨h3, by omega⟩]
          · rw [if_neg (by omega), if_neg (by omega)]
            exact tell_low hM.2.2.2.2 (by omega)
        rw [tl]; simp

/-- what Put makes of the runs ahead of a gap and behind it -/
def putX (a v : Int) (X : List Rn) : List Rn :=
  match X.getLast? with
  | none => X
  | some r => if r.2.1 = a ∧ r.2.2 = v then X.dropLast else X
def putA (a v : Int) (X : List Rn) : Int :=
  match X.getLast? with
  | none => a
  | some r => if r.2.1 = a ∧ r.2.2 = v then r.1 else a
def putZ (b v : Int) : List Rn → List Rn
  | [] => []
  | r :: l => if r.1 = b ∧ r.2.2 = v then l else r :: l
def putB (b v : Int) : List Rn → Int
  | [] => b
  | r :: _ => if r.1 = b ∧ r.2.2 = v then r.2.1 else b
def putL (a b v : Int) (X Z : List Rn) : List Rn := putX a v X ++ ((putA a v X, putB b v Z, v) :: putZ b v Z)

theorem put_good {a b v : Int} {X Z : List Rn} (ha : 0 ≤ a) (hab : a < b) (hb : b ≤ opnI) (hx : ∀ r ∈ X, r.2.1 ≤ a) (hz : ∀ r ∈ Z, b ≤ r.1) (hg : Good 0 none (X ++ Z)) : Good 0 none (putL a b v X Z) := by
  rw [good_app] at hg
  obtain ⟨hX, hZ⟩ := hg
  have behind : ∀ (lo : Int) (t : Option Int) (c : Int), lo ≤ c → c ≤ a → (c = lo → t ≠ some v) → Good lo t ((c, putB b v Z, v) :: putZ b v Z) := fun lo t c h1 h2 h3 => by
    cases Z with
    | nil => exact ⟨h1, by show c < b; omega, hb, h3, trivial⟩
    | cons r l =>
      simp only [putB, putZ]
      split
      · exact ⟨h1, by show c < r.2.1; have := hZ.2.1; have := hz r (List.mem_cons_self ..); omega, hZ.2.2.1, h3, by rename_i k; rw [← k.2]; exact hZ.2.2.2.2⟩
      · rename_i k
        refine ⟨h1, by show c < b; omega, hb, h3, hz r (List.mem_cons_self ..), hZ.2.1, hZ.2.2.1, fun e => ?_, hZ.2.2.2.2⟩
        simp only at e
        intro q
        exact k ⟨e, (Option.some.inj q).symm⟩
  unfold putL putX putA
  rcases List.eq_nil_or_concat X with rfl | ⟨N, r, rfl⟩
  · exact behind 0 none a ha (Int.le_refl _) (fun _ => by simp)
  · rw [List.concat_eq_append] at hX hx ⊢
    have hra := hx r (by simp)
    simp only [List.getLast?_append, List.getLast?_singleton, Option.some_or]
    have hN := good_app.1 hX
    split
    · rename_i k
      simp only [List.dropLast_append_cons, List.dropLast_singleton, List.append_nil]
      rw [good_app]
      refine ⟨hN.1, behind _ _ _ hN.2.1 (by have := hN.2.2.1; omega) (fun e => ?_)⟩
      have := hN.2.2.2.2.1 e
      rw [← k.2]; exact this
    · rename_i k
      rw [good_app]
      refine ⟨hX, behind _ _ _ ?_ (Int.le_refl _) (fun e => ?_)⟩
      · rw [eTo_app]; exact hra
      · rw [eTo_app] at e
        rw [eTd_app]
        intro q
        exact k ⟨e.symm, Option.some.inj q⟩
theorem put_tell {a b v : Int} {X Z : List Rn} (hab : a < b) (hx : ∀ r ∈ X, r.2.1 ≤ a) (hz : ∀ r ∈ Z, b ≤ r.1) (hg : Good 0 none (X ++ Z)) (p : Int) :
    tell (putL a b v X Z) p = if a ≤ p ∧ p < b then some v else tell (X ++ Z) p := by
  rw [good_app] at hg
  obtain ⟨hX, hZ⟩ := hg
  have tZ : p < b → tell Z p = none := fun h => tell_none fun r hr => by have := hz r hr; omega
  have behind : ∀ c : Int, c ≤ a → tell ((c, putB b v Z, v) :: putZ b v Z) p = if c ≤ p ∧ p < b then some v else tell Z p := fun c hc => by
    cases Z with
    | nil => simp [putB, putZ, tell]
    | cons r l =>
      simp only [putB, putZ]
      split
      · rename_i k
        have := hZ.2.1
        simp only [tell]
        by_cases h1 : c ≤ p ∧ p < b
        · rw [if_pos h1, if_pos (by omega)]
        · rw [if_neg h1]
          by_cases h2 : r.1 ≤ p ∧ p < r.2.1
          · rw [if_pos h2, if_pos (by omega), k.2]
          · rw [if_neg h2, if_neg (by omega)]
      · simp only [tell]
  unfold putL putX putA
  rcases List.eq_nil_or_concat X with rfl | ⟨N, r, rfl⟩
  · exact behind a (Int.le_refl _)
  · rw [List.concat_eq_append] at hX hx ⊢
    have hra := hx r (by simp)
    simp only [List.getLast?_append, List.getLast?_singleton, Option.some_or]
    have hN := good_app.1 hX
    have tX : a ≤ p → tell (N ++ [r]) p = none := fun h => tell_none fun s hs => by have := hx s hs; omega
    split
    · rename_i k
      simp only [List.dropLast_append_cons, List.dropLast_singleton, List.append_nil]
      have hrr := hN.2.2.1
      rw [tell_app, behind r.1 (by omega)]
      simp only [tell_app, tell]
      by_cases h1 : a ≤ p
      · have := tX h1
        simp only [tell_app, tell] at this
        rw [Option.or_eq_none_iff] at this
        by_cases h2 : p < b
        · rw [if_pos (by omega), if_pos ⟨h1, h2⟩, this.1]; rfl
        · rw [if_neg (by omega), if_neg (by omega), this.1, this.2]; rfl
      · by_cases h3 : r.1 ≤ p
        · rw [if_pos (by omega), if_neg (by omega), if_pos (by omega), k.2, tZ (by omega)]; simp
        · rw [if_neg (by omega), if_neg (by omega), if_neg (by omega)]; simp
    · rw [tell_app, behind a (Int.le_refl _)]
      by_cases h1 : a ≤ p ∧ p < b
      · rw [if_pos h1, if_pos h1, tX h1.1]; rfl
      · rw [if_neg h1, if_neg h1, tell_app (x := N ++ [r])]
end Go.Proofs.YthbjhpfgfpkppaaDoor
