/-
  Plain mathematics of sets of bytes: lists of spans, the fewest spans of given bytes are unique; closing gaps; cutting at edges.
-/
import Derived.RowKit
namespace Go.Proofs.YthbjhpfgfpkppaaDoor

abbrev Sp := Int × Int
/-- a byte is in a span -/
def InS (x : Sp) (p : Int) : Prop := 0 ≤ x.1 ∧ x.1 ≤ p ∧ p < x.2 ∧ x.2 ≤ 4611686018427387904
def InL (l : List Sp) (p : Int) : Prop := ∃ x ∈ l, InS x p
def Solid (x : Sp) : Prop := 0 ≤ x.1 ∧ x.1 < x.2 ∧ x.2 ≤ 4611686018427387904
/-- gaps of more than g -/
def Gapped (g : Int) (l : List Sp) : Prop := l.Pairwise fun x y => x.2 + g < y.1
def Canon (l : List Sp) : Prop := (∀ x ∈ l, Solid x) ∧ Gapped 0 l

theorem InL_nil (p : Int) : ¬ InL [] p := by rintro ⟨x, hx, _⟩; cases hx
theorem InL_cons {x : Sp} {l : List Sp} {p : Int} : InL (x :: l) p ↔ InS x p ∨ InL l p := by
  unfold InL; simp
theorem InL_append {l m : List Sp} {p : Int} : InL (l ++ m) p ↔ InL l p ∨ InL m p := by
  unfold InL; simp only [List.mem_append]
  constructor
  · rintro ⟨x, h | h, k⟩
    · exact .inl ⟨x, h, k⟩
    · exact .inr ⟨x, h, k⟩
  · rintro (⟨x, h, k⟩ | ⟨x, h, k⟩)
    · exact ⟨x, .inl h, k⟩
    · exact ⟨x, .inr h, k⟩
theorem InL_one {x : Sp} {p : Int} : InL [x] p ↔ InS x p := by unfold InL; simp

theorem Canon.nil : Canon [] := ⟨fun _ h => (by cases h), List.Pairwise.nil⟩
theorem Canon.tail {x : Sp} {l : List Sp} (h : Canon (x :: l)) : Canon l := ⟨fun y hy => h.1 y (List.mem_cons_of_mem _ hy), (List.pairwise_cons.1 h.2).2⟩
theorem Canon.head {x : Sp} {l : List Sp} (h : Canon (x :: l)) : Solid x := h.1 x (List.mem_cons_self ..)
theorem Canon.later {x : Sp} {l : List Sp} (h : Canon (x :: l)) : ∀ y ∈ l, x.2 < y.1 := fun y hy => by have := (List.pairwise_cons.1 h.2).1 y hy; omega
theorem Canon.not_in {x : Sp} {l : List Sp} (h : Canon (x :: l)) {p : Int} (hp : p ≤ x.2) : ¬ InL l p := by
  rintro ⟨y, hy, k⟩
  have := h.later y hy
  unfold InS at k; omega

theorem canon_unique : ∀ {l m : List Sp}, Canon l → Canon m → (∀ p, InL l p ↔ InL m p) → l = m
  | [], [], _, _, _ => rfl
  | [], y :: m, _, hm, h => by
    have s := hm.head
    exact absurd ((h y.1).2 ⟨y, List.mem_cons_self .., by unfold Solid at s; unfold InS; omega⟩) (InL_nil _)
  | x :: l, [], hl, _, h => by
    have s := hl.head
    exact absurd ((h x.1).1 ⟨x, List.mem_cons_self .., by unfold Solid at s; unfold InS; omega⟩) (InL_nil _)
  | x :: l, y :: m, hl, hm, h => by
    have sx := hl.head; have sy := hm.head
    unfold Solid at sx sy
    have lo : ∀ {z : Sp} {n : List Sp} {p : Int}, Canon (z :: n) → InL (z :: n) p → z.1 ≤ p := by
      intro z n p hz hp
      have sz := hz.head; unfold Solid at sz
      rcases InL_cons.1 hp with hp | ⟨u, hu, k⟩
      · unfold InS at hp; omega
      · have := hz.later u hu; unfold InS at k; omega
    have e1 : x.1 = y.1 := by
      have a := lo hm ((h x.1).1 (InL_cons.2 (.inl (by unfold InS; omega))))
      have b := lo hl ((h y.1).2 (InL_cons.2 (.inl (by unfold InS; omega))))
      omega
    have e2 : x.2 = y.2 := by
      rcases Int.lt_trichotomy x.2 y.2 with lt | e | gt
      · have a := (h x.2).2 (InL_cons.2 (.inl (by unfold InS; omega)))
        rcases InL_cons.1 a with a | a
        · unfold InS at a; omega
        · exact absurd a (hl.not_in (Int.le_refl _))
      · exact e
      · have a := (h y.2).1 (InL_cons.2 (.inl (by unfold InS; omega)))
        rcases InL_cons.1 a with a | a
        · unfold InS at a; omega
        · exact absurd a (hm.not_in (Int.le_refl _))
    have e : x = y := Prod.ext e1 e2
    subst e
    congr 1
    refine canon_unique hl.tail hm.tail fun p => ?_
    by_cases hp : p ≤ x.2
    · exact ⟨fun a => absurd a (hl.not_in hp), fun a => absurd a (hm.not_in hp)⟩
    · have := h p
      rw [InL_cons, InL_cons] at this
      have ns : ¬ InS x p := by unfold InS; omega
      simpa [ns] using this

theorem Canon.le_end {l : List Sp} {x : Sp} (h : Canon (l ++ [x])) : ∀ y ∈ l, y.2 < x.1 := fun y hy => by
  have := (List.pairwise_append.1 h.2).2.2 y hy x (by simp); omega
theorem Canon.snoc {l : List Sp} {x : Sp} (h : Canon l) (hx : Solid x) (hl : ∀ y ∈ l, y.2 < x.1) : Canon (l ++ [x]) := by
  refine ⟨fun y hy => ?_, List.pairwise_append.2 ⟨h.2, by simp, fun y hy z hz => ?_⟩⟩
  · rcases List.mem_append.1 hy with hy | hy
    · exact h.1 y hy
    · simp at hy; subst hy; exact hx
  · simp at hz; subst hz; have := hl y hy; omega
theorem Canon.init {l m : List Sp} (h : Canon (l ++ m)) : Canon l := ⟨fun y hy => h.1 y (List.mem_append_left _ hy), (List.pairwise_append.1 h.2).1⟩

/- closing gaps -/
def closeFrom (g : Int) : Sp → List Sp → List Sp
  | c, [] => [c]
  | c, x :: r => if x.1 - c.2 ≤ g then closeFrom g (c.1, max c.2 x.2) r else c :: closeFrom g x r
def closeL (g : Int) : List Sp → List Sp
  | [] => []
  | x :: r => closeFrom g x r

theorem closeFrom_snoc (g : Int) (x : Sp) : ∀ (c : Sp) (r : List Sp), ∃ init y, closeFrom g c r = init ++ [y] ∧ closeFrom g c (r ++ [x]) = if x.1 - y.2 ≤ g then init ++ [(y.1, max y.2 x.2)] else init ++ [y, x]
  | c, [] => by
    refine ⟨[], c, rfl, ?_⟩
    simp only [List.nil_append, closeFrom]
  | c, z :: r => by
    simp only [List.cons_append, closeFrom]
    by_cases h : z.1 - c.2 ≤ g
    · rw [if_pos h, if_pos h]
      exact closeFrom_snoc g x _ r
    · rw [if_neg h, if_neg h]
      obtain ⟨init, y, h1, h2⟩ := closeFrom_snoc g x z r
      refine ⟨c :: init, y, by rw [h1]; rfl, ?_⟩
      rw [h2]
      split <;> rfl
theorem closeL_snoc (g : Int) (x : Sp) (l : List Sp) :
    (l = [] ∧ closeL g l = [] ∧ closeL g (l ++ [x]) = [x]) ∨ ∃ init y, closeL g l = init ++ [y] ∧ closeL g (l ++ [x]) = if x.1 - y.2 ≤ g then init ++ [(y.1, max y.2 x.2)] else init ++ [y, x] := by
  cases l with
  | nil => exact .inl ⟨rfl, rfl, rfl⟩
  | cons z r => exact .inr (closeFrom_snoc g x z r)
theorem closeFrom_len (g : Int) : ∀ (c : Sp) (r : List Sp), (closeFrom g c r).length ≤ r.length + 1
  | c, [] => by simp [closeFrom]
  | c, x :: r => by
    simp only [closeFrom]
    split
    · have := closeFrom_len g (c.1, max c.2 x.2) r; simp; omega
    · have := closeFrom_len g x r; simp; omega
theorem closeL_len (g : Int) (l : List Sp) : (closeL g l).length ≤ l.length := by
  cases l with
  | nil => simp [closeL]
  | cons x r => have := closeFrom_len g x r; simpa [closeL] using this

/-- closing gaps of at most g, g not below 0, of spans that rise -/
theorem closeFrom_gapped (g : Int) (hg : 0 ≤ g) : ∀ (c : Sp) (r : List Sp), Solid c → (∀ x ∈ r, Solid x) → (c :: r).Pairwise (fun x y => x.1 ≤ y.1) →
    (∀ x ∈ closeFrom g c r, Solid x) ∧ Gapped g (closeFrom g c r) ∧ (∀ x ∈ closeFrom g c r, c.1 ≤ x.1)
  | c, [], hc, _, _ => by
    simp only [closeFrom]
    exact ⟨by simpa using hc, by simp [Gapped], by simp⟩
  | c, x :: r, hc, hr, hp => by
    have hx := hr x (List.mem_cons_self ..)
    have hr' : ∀ y ∈ r, Solid y := fun y hy => hr y (List.mem_cons_of_mem _ hy)
    obtain ⟨p1, p2⟩ := List.pairwise_cons.1 hp
    obtain ⟨p3, p4⟩ := List.pairwise_cons.1 p2
    have cx := p1 x (List.mem_cons_self ..)
    simp only [closeFrom]
    by_cases h : x.1 - c.2 ≤ g
    · rw [if_pos h]
      refine closeFrom_gapped g hg (c.1, max c.2 x.2) r (by unfold Solid at *; simp only; omega) hr' (List.pairwise_cons.2 ⟨fun y hy => p1 y (List.mem_cons_of_mem _ hy), p4⟩)
    · rw [if_neg h]
      obtain ⟨a, b, d⟩ := closeFrom_gapped g hg x r hx hr' (List.pairwise_cons.2 ⟨p3, p4⟩)
      refine ⟨fun y hy => ?_, List.pairwise_cons.2 ⟨fun y hy => ?_, b⟩, fun y hy => ?_⟩
      · rcases List.mem_cons.1 hy with rfl | hy
        · exact hc
        · exact a y hy
      · have := d y hy; omega
      · rcases List.mem_cons.1 hy with rfl | hy
        · exact Int.le_refl _
        · have := d y hy; omega
/-- with no gap closed the bytes are the same -/
theorem closeFrom_in (p : Int) : ∀ (c : Sp) (r : List Sp), Solid c → (∀ x ∈ r, Solid x) → (c :: r).Pairwise (fun x y => x.1 ≤ y.1) → (InL (closeFrom 0 c r) p ↔ InS c p ∨ InL r p)
  | c, [], hc, _, _ => by simp only [closeFrom]; rw [InL_one]; simp [InL_nil]
  | c, x :: r, hc, hr, hp => by
    have hx := hr x (List.mem_cons_self ..)
    have hr' : ∀ y ∈ r, Solid y := fun y hy => hr y (List.mem_cons_of_mem _ hy)
    obtain ⟨p1, p2⟩ := List.pairwise_cons.1 hp
    obtain ⟨p3, p4⟩ := List.pairwise_cons.1 p2
    have cx := p1 x (List.mem_cons_self ..)
    simp only [closeFrom]
    by_cases h : x.1 - c.2 ≤ 0
    · rw [if_pos h, closeFrom_in p (c.1, max c.2 x.2) r (by unfold Solid at *; simp only; omega) hr' (List.pairwise_cons.2 ⟨fun y hy => p1 y (List.mem_cons_of_mem _ hy), p4⟩), InL_cons]
      have : InS (c.1, max c.2 x.2) p ↔ InS c p ∨ InS x p := by unfold InS Solid at *; simp only; omega
      rw [this, or_assoc]
    · rw [if_neg h, InL_cons, closeFrom_in p x r hx hr' (List.pairwise_cons.2 ⟨p3, p4⟩), InL_cons]
theorem closeL_canon {l : List Sp} (hs : ∀ x ∈ l, Solid x) (hp : l.Pairwise fun x y => x.1 ≤ y.1) : Canon (closeL 0 l) ∧ ∀ p, InL (closeL 0 l) p ↔ InL l p := by
  cases l with
  | nil => exact ⟨Canon.nil, fun p => Iff.rfl⟩
  | cons c r =>
    have h1 := closeFrom_gapped 0 (by omega) c r (hs c (List.mem_cons_self ..)) (fun x hx => hs x (List.mem_cons_of_mem _ hx)) hp
    exact ⟨⟨h1.1, h1.2.1⟩, fun p => by rw [InL_cons]; exact closeFrom_in p c r (hs c (List.mem_cons_self ..)) (fun x hx => hs x (List.mem_cons_of_mem _ hx)) hp⟩
/-- what has greater gaps stays -/
theorem closeFrom_same (g : Int) : ∀ (c : Sp) (r : List Sp), Gapped g (c :: r) → closeFrom g c r = c :: r
  | c, [], _ => rfl
  | c, x :: r, h => by
    obtain ⟨h1, h2⟩ := List.pairwise_cons.1 h
    have := h1 x (List.mem_cons_self ..)
    simp only [closeFrom]
    rw [if_neg (by omega), closeFrom_same g x r h2]
theorem closeL_same (g : Int) {l : List Sp} (h : Gapped g l) : closeL g l = l := by
  cases l with
  | nil => rfl
  | cons c r => exact closeFrom_same g c r h
theorem Canon.rising {l : List Sp} (h : Canon l) : l.Pairwise fun x y => x.1 ≤ y.1 :=
  List.Pairwise.imp_of_mem (fun {x y} hx _ k => by have := h.1 x hx; unfold Solid at this; omega) h.2
theorem Gapped.mono {g k : Int} {l : List Sp} (h : Gapped g l) (hk : k ≤ g) : Gapped k l := h.imp (by omega)
theorem near_canon (g : Int) {l : List Sp} (h : Canon l) : Canon (closeL g l) := by
  by_cases hg : 0 ≤ g
  · cases l with
    | nil => exact Canon.nil
    | cons c r =>
      have h1 := closeFrom_gapped g hg c r h.head h.tail.1 h.rising
      exact ⟨h1.1, h1.2.1.mono hg⟩
  · rw [closeL_same g (h.2.mono (by omega))]; exact h
theorem near_again (g : Int) {l : List Sp} (h : Canon l) : closeL g (closeL g l) = closeL g l := by
  refine closeL_same g ?_
  by_cases hg : 0 ≤ g
  · cases l with
    | nil => simp [closeL, Gapped]
    | cons c r => exact (closeFrom_gapped g hg c r h.head h.tail.1 h.rising).2.1
  · rw [closeL_same g (h.2.mono (by omega))]; exact h.2.mono (by omega)
/-- in a gap of at most g -/
def GapP (g p : Int) : List Sp → Prop
  | x :: y :: r => (y.1 - x.2 ≤ g ∧ x.2 ≤ p ∧ p < y.1) ∨ GapP g p (y :: r)
  | _ => False
theorem nearFrom_in (g p : Int) : ∀ (a : Int) (c : Sp) (r : List Sp), 0 ≤ a → a ≤ c.1 → Canon (c :: r) → (InL (closeFrom g (a, c.2) r) p ↔ (a ≤ p ∧ p < c.2) ∨ InL r p ∨ GapP g p (c :: r))
  | a, c, [], ha, hc, h => by
    have s := h.head
    simp only [closeFrom, GapP, InL_one]
    simp only [InL_nil, or_false]
    unfold InS Solid at *; simp only; omega
  | a, c, x :: r, ha, hc, h => by
    have s := h.head; have sx := h.tail.head
    have cx := h.later x (List.mem_cons_self ..)
    simp only [closeFrom, GapP]
    by_cases hh : x.1 - c.2 ≤ g
    · rw [if_pos hh, show max c.2 x.2 = x.2 by unfold Solid at *; omega, nearFrom_in g p a x r ha (by unfold Solid at *; omega) h.tail, InL_cons]
      have : InS x p ↔ x.1 ≤ p ∧ p < x.2 := by unfold InS Solid at *; omega
      rw [this]
      constructor
      · rintro (k | k | k)
        · by_cases k1 : p < c.2
          · exact .inl ⟨k.1, k1⟩
          · by_cases k2 : p < x.1
            · exact .inr (.inr (.inl ⟨hh, by omega, k2⟩))
            · exact .inr (.inl (.inl ⟨by omega, k.2⟩))
        · exact .inr (.inl (.inr k))
        · exact .inr (.inr (.inr k))
      · rintro (k | (k | k) | (k | k))
        · exact .inl ⟨k.1, by unfold Solid at *; omega⟩
        · exact .inl ⟨by unfold Solid at *; omega, k.2⟩
        · exact .inr (.inl k)
        · exact .inl ⟨by unfold Solid at *; omega, by unfold Solid at *; omega⟩
        · exact .inr (.inr k)
    · rw [if_neg hh, InL_cons, show closeFrom g x r = closeFrom g (x.1, x.2) r from rfl, nearFrom_in g p x.1 x r (by unfold Solid at *; omega) (Int.le_refl _) h.tail, InL_cons]
      have : InS x p ↔ x.1 ≤ p ∧ p < x.2 := by unfold InS Solid at *; omega
      have h2 : InS (a, c.2) p ↔ a ≤ p ∧ p < c.2 := by unfold InS Solid at *; simp only; omega
      have h3 : (x.1 - c.2 ≤ g ∧ c.2 ≤ p ∧ p < x.1) ↔ False := ⟨fun k => hh k.1, False.elim⟩
      rw [this, h2, h3, false_or, or_assoc]
theorem near_in (g p : Int) {l : List Sp} (h : Canon l) : InL (closeL g l) p ↔ InL l p ∨ GapP g p l := by
  cases l with
  | nil => simp [closeL, GapP]
  | cons c r =>
    have s := h.head; unfold Solid at s
    rw [show closeL g (c :: r) = closeFrom g (c.1, c.2) r from rfl, nearFrom_in g p c.1 c r s.1 (Int.le_refl _) h, InL_cons, or_assoc]
    have : InS c p ↔ c.1 ≤ p ∧ p < c.2 := by unfold InS; omega
    rw [this]

/- a rising list of places -/
def insL (n : Int) : List Int → List Int
  | [] => [n]
  | x :: r => if n ≤ x then (if n < x then n :: x :: r else x :: r) else x :: insL n r
theorem insL_lt {n : Int} : ∀ {l : List Int}, (∀ x ∈ l, x < n) → insL n l = l ++ [n]
  | [], _ => rfl
  | x :: r, h => by
    have hx := h x (List.mem_cons_self ..)
    simp only [insL]
    rw [if_neg (by omega), insL_lt fun y hy => h y (List.mem_cons_of_mem _ hy)]; rfl
theorem insL_snoc_done {n y : Int} : ∀ {l : List Int}, (∃ x ∈ l, n ≤ x) → insL n (l ++ [y]) = insL n l ++ [y]
  | [], h => by obtain ⟨x, hx, _⟩ := h; cases hx
  | x :: r, h => by
    simp only [List.cons_append, insL]
    by_cases hx : n ≤ x
    · rw [if_pos hx, if_pos hx]; split <;> rfl
    · rw [if_neg hx, if_neg hx, insL_snoc_done]; rfl
      obtain ⟨z, hz, k⟩ := h
      rcases List.mem_cons.1 hz with rfl | hz
      · exact absurd k hx
      · exact ⟨z, hz, k⟩
theorem insL_snoc_now {n y : Int} : ∀ {l : List Int}, (∀ x ∈ l, x < n) → n ≤ y → insL n (l ++ [y]) = if n < y then l ++ [n, y] else l ++ [y]
  | [], _, hy => by
    simp only [List.nil_append, insL]
    rw [if_pos hy]
  | x :: r, h, hy => by
    have hx := h x (List.mem_cons_self ..)
    simp only [List.cons_append, insL]
    rw [if_neg (by omega), insL_snoc_now (fun z hz => h z (List.mem_cons_of_mem _ hz)) hy]
    split <;> rfl
theorem insL_len (n : Int) : ∀ l : List Int, (insL n l).length ≤ l.length + 1
  | [] => by simp [insL]
  | x :: r => by
    have := insL_len n r
    simp only [insL]; split
    · split <;> simp
    · simp; omega
theorem mem_insL {n y : Int} : ∀ {l : List Int}, y ∈ insL n l ↔ y = n ∨ y ∈ l
  | [] => by simp [insL]
  | x :: r => by
    have ih := @mem_insL n y r
    simp only [insL]
    split
    · split
      · simp
      · have : x = n := by omega
        subst this; simp
    · simp only [List.mem_cons, ih]
      constructor
      · rintro (h | h | h) <;> simp [h]
      · rintro (h | h | h) <;> simp [h]
theorem insL_sorted {n : Int} : ∀ {l : List Int}, l.Pairwise (· < ·) → (insL n l).Pairwise (· < ·)
  | [], _ => by simp [insL]
  | x :: r, h => by
    obtain ⟨h1, h2⟩ := List.pairwise_cons.1 h
    simp only [insL]
    split
    · split
      · refine List.pairwise_cons.2 ⟨fun y hy => ?_, h⟩
        rcases List.mem_cons.1 hy with rfl | hy
        · assumption
        · have := h1 y hy; omega
      · exact h
    · refine List.pairwise_cons.2 ⟨fun y hy => ?_, insL_sorted h2⟩
      rcases mem_insL.1 hy with rfl | hy
      · omega
      · exact h1 y hy

/-- may a span be -/
def okS (x : Sp) : Prop := 0 ≤ x.1 ∧ x.1 ≤ x.2 ∧ x.2 ≤ 4611686018427387904
instance (x : Sp) : Decidable (okS x) := inferInstanceAs (Decidable (_ ∧ _ ∧ _))
def endStep (o : List Int) (x : Sp) : List Int := if okS x then insL x.2 (insL x.1 o) else o
def endsL (l : List Sp) : List Int := l.foldl endStep []
theorem endsL_snoc (l : List Sp) (x : Sp) : endsL (l ++ [x]) = endStep (endsL l) x := by simp [endsL]
theorem endsFold_len : ∀ (l : List Sp) (o : List Int), (l.foldl endStep o).length ≤ o.length + 2 * l.length
  | [], o => by simp
  | x :: r, o => by
    have := endsFold_len r (endStep o x)
    have h2 : (endStep o x).length ≤ o.length + 2 := by
      unfold endStep; split
      · have a := insL_len x.2 (insL x.1 o); have b := insL_len x.1 o; omega
      · omega
    simp only [List.foldl_cons, List.length_cons]; omega
theorem endsL_len (l : List Sp) : (endsL l).length ≤ 2 * l.length := by have := endsFold_len l []; simpa [endsL] using this
theorem endsFold_sorted : ∀ (l : List Sp) (o : List Int), o.Pairwise (· < ·) → (l.foldl endStep o).Pairwise (· < ·)
  | [], o, h => h
  | x :: r, o, h => by
    refine endsFold_sorted r _ ?_
    unfold endStep; split
    · exact insL_sorted (insL_sorted h)
    · exact h
theorem endsL_sorted (l : List Sp) : (endsL l).Pairwise (· < ·) := endsFold_sorted l [] List.Pairwise.nil
theorem mem_endsFold {y : Int} : ∀ (l : List Sp) (o : List Int), y ∈ l.foldl endStep o ↔ y ∈ o ∨ ∃ x ∈ l, okS x ∧ (y = x.1 ∨ y = x.2)
  | [], o => by simp
  | x :: r, o => by
    rw [List.foldl_cons, mem_endsFold r]
    have : y ∈ endStep o x ↔ y ∈ o ∨ (okS x ∧ (y = x.1 ∨ y = x.2)) := by
      unfold endStep
      split
      · rw [mem_insL, mem_insL]
        rename_i hx
        constructor
        · rintro (h | h | h) <;> simp [h, hx]
        · rintro (h | ⟨_, h | h⟩) <;> simp [h]
      · rename_i hx; simp [hx]
    rw [this]
    constructor
    · rintro ((h | h) | ⟨z, hz, h⟩)
      · exact .inl h
      · exact .inr ⟨x, List.mem_cons_self .., h⟩
      · exact .inr ⟨z, List.mem_cons_of_mem _ hz, h⟩
    · rintro (h | ⟨z, hz, h⟩)
      · exact .inl (.inl h)
      · rcases List.mem_cons.1 hz with rfl | hz
        · exact .inl (.inr h)
        · exact .inr ⟨z, hz, h⟩
theorem mem_endsL {y : Int} {l : List Sp} : y ∈ endsL l ↔ ∃ x ∈ l, okS x ∧ (y = x.1 ∨ y = x.2) := by
  unfold endsL; rw [mem_endsFold]; simp

/-- between two neighbouring places nothing begins or ends -/
theorem InL_between {l : List Sp} {a b p : Int} (hap : a ≤ p) (hpb : p < b) (h : ∀ x ∈ l, okS x → ∀ y, (y = x.1 ∨ y = x.2) → y ≤ a ∨ b ≤ y) : InL l p ↔ InL l a := by
  unfold InL InS
  constructor
  · rintro ⟨x, hx, k⟩
    have := h x hx (by unfold okS; omega)
    have k1 := this x.1 (.inl rfl)
    exact ⟨x, hx, by omega⟩
  · rintro ⟨x, hx, k⟩
    have := h x hx (by unfold okS; omega)
    have k1 := this x.2 (.inr rfl)
    exact ⟨x, hx, by omega⟩
end Go.Proofs.YthbjhpfgfpkppaaDoor
