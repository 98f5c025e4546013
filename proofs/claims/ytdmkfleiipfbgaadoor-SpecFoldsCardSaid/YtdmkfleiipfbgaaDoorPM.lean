/-
  Spans made fewer: which bytes they have, that no two are near any more, that two near ones may be made one ahead of it; mathematics alone.
-/
import Derived.Test.YtdmkfleiipfbgaaDoorPI
namespace Go.Proofs.YtdmkfleiipfbgaaDoor
open Go Go.RowKit

/-- two spans are near, for a gap -/
def NearP (g : Int) (x y : Sp) : Prop := y.1 - x.2 ≤ max g 0 ∧ x.1 - y.2 ≤ max g 0
/-- a byte is in one of them, or in a short gap between two -/
def Cv (g : Int) (l : List Sp) (p : Int) : Prop := InL l p ∨ ∃ x ∈ l, ∃ y ∈ l, x.2 ≤ p ∧ p < y.1 ∧ y.1 - x.2 ≤ g
def SolidL (l : List Sp) : Prop := ∀ x ∈ l, Solid x

theorem gap_ex {g p : Int} : ∀ {N : List Sp}, GapP g p N → ∃ x ∈ N, ∃ y ∈ N, x.2 ≤ p ∧ p < y.1 ∧ y.1 - x.2 ≤ g
  | [], h => by simp [GapP] at h
  | [_], h => by simp [GapP] at h
  | x :: y :: r, h => by
    unfold GapP at h
    rcases h with h | h
    · exact ⟨x, by simp, y, by simp, by omega⟩
    · obtain ⟨a, ha, b, hb, k⟩ := gap_ex h
      exact ⟨a, List.mem_cons_of_mem _ ha, b, List.mem_cons_of_mem _ hb, k⟩
theorem gap_of {g p : Int} : ∀ {N : List Sp}, Canon N → (∃ x ∈ N, ∃ y ∈ N, x.2 ≤ p ∧ p < y.1 ∧ y.1 - x.2 ≤ g) → InL N p ∨ GapP g p N
  | [], _, ⟨x, hx, _⟩ => by cases hx
  | [a], hc, ⟨x, hx, y, hy, h⟩ => by
    simp only [List.mem_singleton] at hx hy
    subst hx; subst hy
    have := hc.head; unfold Solid at this; omega
  | a :: b :: r, hc, ⟨x, hx, y, hy, h1, h2, h3⟩ => by
    have ha := hc.head
    have hb := hc.tail.head
    have hab := hc.later b (by simp)
    have hlat := hc.later
    have hlat2 := hc.tail.later
    unfold Solid at ha hb
    have hxs := hc.1 x hx
    unfold Solid at hxs
    by_cases k1 : p < a.2
    · rcases List.mem_cons.1 hx with rfl | hx'
      · omega
      · have := hlat x hx'; omega
    · by_cases k2 : p < b.1
      · right; unfold GapP; left
        have ex : x = a := by
          rcases List.mem_cons.1 hx with e | hx'
          · exact e
          · rcases List.mem_cons.1 hx' with rfl | hx''
            · omega
            · have := hlat2 x hx''; omega
        subst ex
        refine ⟨?_, by omega, k2⟩
        rcases List.mem_cons.1 hy with rfl | hy'
        · omega
        · rcases List.mem_cons.1 hy' with rfl | hy''
          · omega
          · have := hlat2 y hy''; omega
      · have hy' : y ∈ b :: r := by
          rcases List.mem_cons.1 hy with rfl | hy'
          · omega
          · exact hy'
        have hx2 : ∃ z ∈ b :: r, ∃ y ∈ b :: r, z.2 ≤ p ∧ p < y.1 ∧ y.1 - z.2 ≤ g ∨ InS b p := by
          rcases List.mem_cons.1 hx with rfl | hx'
          · by_cases k3 : p < b.2
            · exact ⟨b, by simp, y, hy', .inr (by unfold InS; omega)⟩
            · exact ⟨b, by simp, y, hy', .inl (by omega)⟩
          · exact ⟨x, hx', y, hy', .inl (by omega)⟩
        obtain ⟨z, hz, y', hy2, h | h⟩ := hx2
        · rcases gap_of hc.tail ⟨z, hz, y', hy2, h⟩ with h | h
          · exact .inl (InL_cons.2 (.inr h))
          · right; unfold GapP; right; exact h
        · exact .inl (InL_cons.2 (.inr (InL_cons.2 (.inl h))))

/-- an end of a list's spans is an end of one that was there -/
theorem norm_end {l : List Sp} {x : Sp} (hx : x ∈ normL l) : ∃ x' ∈ l, x'.2 = x.2 ∧ InS x' (x.2 - 1) := by
  have hc := (normL_norm l).1
  have hs := hc.1 x hx
  unfold Solid at hs
  obtain ⟨x', hx', hi⟩ := ((normL_norm l).2 (x.2 - 1)).1 ⟨x, hx, by unfold InS; omega⟩
  refine ⟨x', hx', ?_, hi⟩
  unfold InS at hi
  by_cases h : x'.2 = x.2
  · exact h
  · have hin : InL (normL l) x.2 := ((normL_norm l).2 x.2).2 ⟨x', hx', by unfold InS; omega⟩
    obtain ⟨z, hz, hzi⟩ := hin
    obtain ⟨i, hi', rfl⟩ := List.getElem_of_mem hx
    obtain ⟨j, hj, rfl⟩ := List.getElem_of_mem hz
    unfold InS at hzi
    rcases Nat.lt_trichotomy i j with hlt | rfl | hlt
    · have := hc.rise hlt hj; omega
    · omega
    · have := hc.rise hlt hi'; have := hc.at_ hi'; omega
theorem norm_begin {l : List Sp} {y : Sp} (hy : y ∈ normL l) : ∃ y' ∈ l, y'.1 = y.1 ∧ InS y' y.1 := by
  have hc := (normL_norm l).1
  have hs := hc.1 y hy
  unfold Solid at hs
  obtain ⟨y', hy', hi⟩ := ((normL_norm l).2 y.1).1 ⟨y, hy, by unfold InS; omega⟩
  refine ⟨y', hy', ?_, hi⟩
  unfold InS at hi
  by_cases h : y'.1 = y.1
  · exact h
  · have hin : InL (normL l) (y.1 - 1) := ((normL_norm l).2 (y.1 - 1)).2 ⟨y', hy', by unfold InS; omega⟩
    obtain ⟨z, hz, hzi⟩ := hin
    obtain ⟨i, hi', rfl⟩ := List.getElem_of_mem hy
    obtain ⟨j, hj, rfl⟩ := List.getElem_of_mem hz
    unfold InS at hzi
    rcases Nat.lt_trichotomy i j with hlt | rfl | hlt
    · have := hc.rise hlt hj; have := hc.at_ hi'; omega
    · omega
    · have := hc.rise hlt hi'; omega

theorem wide_in {g : Int} {l : List Sp} (hs : SolidL l) (p : Int) : InL (wideL g l) p ↔ Cv g l p := by
  have hc := (normL_norm l).1
  have hn := (normL_norm l).2
  unfold wideL Cv
  rw [near_in g p hc, hn p]
  constructor
  · rintro (h | h)
    · exact .inl h
    · obtain ⟨x, hx, y, hy, h1, h2, h3⟩ := gap_ex h
      obtain ⟨x', hx', ex, _⟩ := norm_end hx
      obtain ⟨y', hy', ey, _⟩ := norm_begin hy
      exact .inr ⟨x', hx', y', hy', by omega⟩
  · rintro (h | ⟨x, hx, y, hy, h1, h2, h3⟩)
    · exact .inl h
    · have sx := hs x hx
      have sy := hs y hy
      unfold Solid at sx sy
      obtain ⟨X, hX, iX⟩ := (hn (x.2 - 1)).2 ⟨x, hx, by unfold InS; omega⟩
      obtain ⟨Y, hY, iY⟩ := (hn y.1).2 ⟨y, hy, by unfold InS; omega⟩
      by_cases hp : InL (normL l) p
      · exact .inl ((hn p).1 hp)
      · have k1 : ¬ InS X p := fun h => hp ⟨X, hX, h⟩
        have k2 : ¬ InS Y p := fun h => hp ⟨Y, hY, h⟩
        have b1 : x.2 ≤ X.2 := by
          by_cases h : x.2 ≤ X.2
          · exact h
          · unfold InS at iX; omega
        unfold InS at iX iY k1 k2
        have b2 : Y.1 ≤ y.1 := by omega
        rcases gap_of (g := g) (p := p) hc ⟨X, hX, Y, hY, by omega, by omega, by omega⟩ with h | h
        · exact absurd h hp
        · exact .inr h

theorem wide_gapped (g : Int) (l : List Sp) : Gapped (max g 0) (wideL g l) := by
  have hc := (normL_norm l).1
  unfold wideL
  by_cases hg : 0 ≤ g
  · rw [show max g 0 = g by omega]
    generalize normL l = N at *
    cases N with
    | nil => exact List.Pairwise.nil
    | cons c r => exact (closeFrom_gapped g hg c r hc.head (fun x hx => hc.tail.1 x hx) hc.rising).2.1
  · rw [show max g 0 = 0 by omega, closeL_same g (hc.2.mono (by omega))]
    exact hc.2

/-- two near ones as one have the same bytes, gaps closed -/
theorem cv_merge {g : Int} {l m R : List Sp} {a b h : Sp} (hl : ∀ x, x ∈ l ↔ x ∈ R ∨ x = a ∨ x = b) (hm : ∀ x, x ∈ m ↔ x ∈ R ∨ x = h) (sa : Solid a) (sb : Solid b) (e1 : h.1 = min a.1 b.1) (e2 : h.2 = max a.2 b.2) (hn : NearP g a b) (p : Int) : Cv g m p ↔ Cv g l p := by
  unfold Solid at sa sb
  unfold NearP at hn
  have toL : ∀ x, x ∈ R → x ∈ l := fun x hx => (hl x).2 (.inl hx)
  have la : a ∈ l := (hl a).2 (.inr (.inl rfl))
  have lb : b ∈ l := (hl b).2 (.inr (.inr rfl))
  have toM : ∀ x, x ∈ R → x ∈ m := fun x hx => (hm x).2 (.inl hx)
  have mh : h ∈ m := (hm h).2 (.inr rfl)
  -- an end of h is an end of a or b
  have hend : ∃ z ∈ l, z.2 = h.2 := by
    by_cases k : a.2 ≤ b.2
    · exact ⟨b, lb, by omega⟩
    · exact ⟨a, la, by omega⟩
  have hbeg : ∃ z ∈ l, z.1 = h.1 := by
    by_cases k : a.1 ≤ b.1
    · exact ⟨a, la, by omega⟩
    · exact ⟨b, lb, by omega⟩
  constructor
  · rintro (⟨x, hx, hp⟩ | ⟨x, hx, y, hy, h1, h2, h3⟩)
    · rcases (hm x).1 hx with hx | rfl
      · exact .inl ⟨x, toL x hx, hp⟩
      · unfold InS at hp
        by_cases ka : InS a p
        · exact .inl ⟨a, la, ka⟩
        · by_cases kb : InS b p
          · exact .inl ⟨b, lb, kb⟩
          · unfold InS at ka kb
            by_cases hab : a.1 ≤ b.1
            · exact .inr ⟨a, la, b, lb, by omega, by omega, by omega⟩
            · exact .inr ⟨b, lb, a, la, by omega, by omega, by omega⟩
    · have fx : ∃ z ∈ l, z.2 = x.2 := by
        rcases (hm x).1 hx with hx | rfl
        · exact ⟨x, toL x hx, rfl⟩
        · exact hend
      have fy : ∃ z ∈ l, z.1 = y.1 := by
        rcases (hm y).1 hy with hy | rfl
        · exact ⟨y, toL y hy, rfl⟩
        · exact hbeg
      obtain ⟨u, hu, eu⟩ := fx
      obtain ⟨v, hv, ev⟩ := fy
      exact .inr ⟨u, hu, v, hv, by omega, by omega, by omega⟩
  · have inh : ∀ x, x ∈ l → x ∉ R → (h.1 ≤ x.1 ∧ x.2 ≤ h.2) := fun x hx hr => by
      rcases (hl x).1 hx with hx | rfl | rfl
      · exact absurd hx hr
      · omega
      · omega
    rintro (⟨x, hx, hp⟩ | ⟨x, hx, y, hy, h1, h2, h3⟩)
    · by_cases hr : x ∈ R
      · exact .inl ⟨x, toM x hr, hp⟩
      · have := inh x hx hr
        refine .inl ⟨h, mh, ?_⟩
        unfold InS at hp ⊢; omega
    · by_cases hph : InS h p
      · exact .inl ⟨h, mh, hph⟩
      · unfold InS at hph
        have fx : ∃ z ∈ m, x.2 ≤ z.2 ∧ z.2 ≤ p := by
          by_cases hr : x ∈ R
          · exact ⟨x, toM x hr, by omega⟩
          · have := inh x hx hr
            have hs : 0 ≤ x.1 ∧ x.1 < x.2 := by
              rcases (hl x).1 hx with hx | rfl | rfl
              · exact absurd hx hr
              · omega
              · omega
            exact ⟨h, mh, by omega⟩
        have fy : ∃ z ∈ m, z.1 ≤ y.1 ∧ p < z.1 := by
          by_cases hr : y ∈ R
          · exact ⟨y, toM y hr, by omega⟩
          · have := inh y hy hr
            have hs : 0 ≤ y.1 ∧ y.1 < y.2 ∧ y.2 ≤ 4611686018427387904 := by
              rcases (hl y).1 hy with hy | rfl | rfl
              · exact absurd hy hr
              · omega
              · omega
            exact ⟨h, mh, by omega⟩
        obtain ⟨u, hu, eu⟩ := fx
        obtain ⟨v, hv, ev⟩ := fy
        exact .inr ⟨u, hu, v, hv, by omega, by omega, by omega⟩

/-- bytes side by side, all had, lie in one span -/
theorem Canon.one {wd : List Sp} (h : Canon wd) {y : Sp} {p q : Int} (hy : y ∈ wd) (hp : InS y p) (hpq : p ≤ q) (ha : ∀ r, p ≤ r → r ≤ q → InL wd r) : InS y q := by
  unfold InS at *
  by_cases k : q < y.2
  · omega
  · obtain ⟨z, hz, hi⟩ := ha y.2 (by omega) (by omega)
    unfold InS at hi
    obtain ⟨i, hi', rfl⟩ := List.getElem_of_mem hy
    obtain ⟨j, hj, rfl⟩ := List.getElem_of_mem hz
    rcases Nat.lt_trichotomy i j with hlt | rfl | hlt
    · have := h.rise hlt hj; omega
    · omega
    · have := h.rise hlt hi'; omega
theorem comp_in {g : Int} {l : List Sp} (hs : SolidL l) {x : Sp} (hx : x ∈ l) : ∃ y ∈ wideL g l, compS (wideL g l) x.1 = some y ∧ InS y x.1 ∧ (∀ p, InS x p → InS y p) := by
  have sx := hs x hx
  unfold Solid at sx
  have hin : ∀ r, x.1 ≤ r → r < x.2 → InL (wideL g l) r := fun r h1 h2 => (wide_in hs r).2 (.inl ⟨x, hx, by unfold InS; omega⟩)
  obtain ⟨y, hy, hi⟩ := hin x.1 (by omega) (by omega)
  refine ⟨y, hy, compS_some (wideL_canon g l) hy hi, hi, fun p hp => ?_⟩
  unfold InS at hp
  exact (wideL_canon g l).one hy hi hp.2.1 fun r h1 h2 => hin r h1 (by omega)

theorem stepF_mem {wd out : List Sp} {x z : Sp} : z ∈ stepF wd out x ↔ z ∈ out ∨ compS wd x.1 = some z := by
  unfold stepF
  cases h : compS wd x.1 with
  | none => simp
  | some y =>
    show z ∈ (if y ∈ out then out else out ++ [y]) ↔ _
    by_cases k : y ∈ out
    · rw [if_pos k]
      constructor
      · exact .inl
      · rintro (h | h)
        · exact h
        · simp only [Option.some.injEq] at h; subst h; exact k
    · rw [if_neg k]
      simp only [List.mem_append, List.mem_singleton, Option.some.injEq]
      constructor
      · rintro (h | h)
        · exact .inl h
        · exact .inr h.symm
      · rintro (h | h)
        · exact .inl h
        · exact .inr h.symm
theorem fold_mem {wd : List Sp} {z : Sp} : ∀ (l out : List Sp), z ∈ l.foldl (stepF wd) out ↔ z ∈ out ∨ ∃ x ∈ l, compS wd x.1 = some z
  | [], out => by simp
  | x :: l, out => by
    rw [List.foldl_cons, fold_mem l, stepF_mem]
    simp only [List.mem_cons, exists_eq_or_imp]
    constructor
    · rintro ((h | h) | h)
      · exact .inl h
      · exact .inr (.inl h)
      · exact .inr (.inr h)
    · rintro (h | h | h)
      · exact .inl (.inl h)
      · exact .inl (.inr h)
      · exact .inr h
theorem foldF_mem {wd l : List Sp} {z : Sp} : z ∈ foldF wd l ↔ ∃ x ∈ l, compS wd x.1 = some z := by
  unfold foldF; rw [fold_mem]; simp
theorem stepF_nodup {wd out : List Sp} {x : Sp} (h : out.Nodup) : (stepF wd out x).Nodup := by
  unfold stepF
  split
  · split
    · exact h
    · rename_i y _ k
      rw [List.nodup_append]
      refine ⟨h, by simp, fun a ha b hb e => ?_⟩
      simp only [List.mem_singleton] at hb
      subst hb; subst e; exact k ha
  · exact h
theorem foldF_nodup (wd l : List Sp) : (foldF wd l).Nodup := by
  have : ∀ (l out : List Sp), out.Nodup → (l.foldl (stepF wd) out).Nodup := by
    intro l
    induction l with
    | nil => intro out h; exact h
    | cons x l ih => intro out h; exact ih _ (stepF_nodup h)
  exact this l [] List.Pairwise.nil
theorem stepF_same {wd out : List Sp} {x c : Sp} (e : compS wd x.1 = some c) (hc : c ∈ out) : stepF wd out x = out := by
  unfold stepF; rw [e]; exact if_pos hc
/-- a span more that begins in the same one as a span ahead of it -/
theorem foldF_drop {wd A B D : List Sp} {a b h c : Sp} (ea : compS wd a.1 = some c) (eb : compS wd b.1 = some c) (eh : compS wd h.1 = some c) :
    foldF wd (A ++ h :: (B ++ D)) = foldF wd (A ++ a :: (B ++ b :: D)) := by
  have e1 : ∀ out, stepF wd out h = stepF wd out a := fun out => by unfold stepF; rw [ea, eh]
  unfold foldF
  rw [List.foldl_append, List.foldl_append, List.foldl_cons, List.foldl_cons, List.foldl_append, List.foldl_append, List.foldl_cons, e1]
  have hc : c ∈ B.foldl (stepF wd) (stepF wd (A.foldl (stepF wd) []) a) := (fold_mem _ _).2 (.inl (stepF_mem.2 (.inr ea)))
  have e2 : stepF wd (B.foldl (stepF wd) (stepF wd (A.foldl (stepF wd) []) a)) b = B.foldl (stepF wd) (stepF wd (A.foldl (stepF wd) []) a) := by
    exact stepF_same eb hc
  rw [e2]

/-- no two are near -/
def Far (g : Int) (l : List Sp) : Prop := ∀ i j (hi : i < l.length) (hj : j < l.length), i ≠ j → ¬ NearP g l[i] l[j]
theorem far_comp {g : Int} {l : List Sp} (hs : SolidL l) (hf : Far g l) {x : Sp} (hx : x ∈ l) : compS (wideL g l) x.1 = some x := by
  obtain ⟨y, hy, he, hi, hall⟩ := comp_in (g := g) hs hx
  have sx := hs x hx
  have hc := wideL_canon g l
  have sy := hc.1 y hy
  unfold Solid at sx sy
  obtain ⟨i, hi', rfl⟩ := List.getElem_of_mem hx
  have h1 := hall (l[i].2 - 1) (by unfold InS; omega)
  unfold InS at h1 hi
  -- the byte behind it is not had
  have hend : ¬ Cv g l l[i].2 := by
    rintro (⟨z, hz, hp⟩ | ⟨u, hu, z, hz, k1, k2, k3⟩)
    · obtain ⟨j, hj, rfl⟩ := List.getElem_of_mem hz
      unfold InS at hp
      have hne : i ≠ j := by intro e; subst e; omega
      exact hf i j hi' hj hne ⟨by omega, by omega⟩
    · obtain ⟨j, hj, rfl⟩ := List.getElem_of_mem hz
      have sz := hs _ hz
      unfold Solid at sz
      have hne : i ≠ j := by intro e; subst e; omega
      exact hf i j hi' hj hne ⟨by omega, by omega⟩
  have hbeg : ¬ Cv g l (l[i].1 - 1) := by
    rintro (⟨z, hz, hp⟩ | ⟨u, hu, z, hz, k1, k2, k3⟩)
    · obtain ⟨j, hj, rfl⟩ := List.getElem_of_mem hz
      unfold InS at hp
      have hne : i ≠ j := by intro e; subst e; omega
      exact hf i j hi' hj hne ⟨by omega, by omega⟩
    · obtain ⟨j, hj, rfl⟩ := List.getElem_of_mem hu
      have sz := hs _ hu
      unfold Solid at sz
      have hne : i ≠ j := by intro e; subst e; omega
      exact hf i j hi' hj hne ⟨by omega, by omega⟩
  have q1 : y.2 = l[i].2 := by
    by_cases k : l[i].2 < y.2
    · exact absurd ((wide_in hs _).1 ⟨y, hy, by unfold InS; omega⟩) hend
    · omega
  have q2 : y.1 = l[i].1 := by
    by_cases k : y.1 < l[i].1
    · exact absurd ((wide_in hs _).1 ⟨y, hy, by unfold InS; omega⟩) hbeg
    · omega
  have : y = l[i] := Prod.ext q2 q1
  rw [← this, this]; rw [this] at he; exact he
theorem near_self {g : Int} {x : Sp} (h : Solid x) : NearP g x x := by unfold NearP; unfold Solid at h; omega
theorem Far.nodup {g : Int} {l : List Sp} (hs : SolidL l) (hf : Far g l) : l.Nodup := by
  rw [List.Nodup, List.pairwise_iff_getElem]
  intro i j hi hj hij e
  refine hf i j hi hj (by omega) ?_
  rw [e]; exact near_self (hs _ (List.getElem_mem hj))
theorem fold_far {g : Int} {l : List Sp} (hs : SolidL l) (hf : Far g l) : foldL g l = l := by
  have hnd := hf.nodup hs
  have : ∀ k, k ≤ l.length → foldF (wideL g l) (l.take k) = l.take k := by
    intro k
    induction k with
    | zero => intro _; rfl
    | succ k ih =>
      intro hk
      have hkl : k < l.length := by omega
      rw [foldF_take hkl, ih (by omega)]
      unfold stepF
      rw [far_comp hs hf (List.getElem_mem hkl)]
      simp only
      rw [if_neg, List.take_succ_eq_append_getElem hkl]
      intro hm
      obtain ⟨j, hj, e⟩ := List.getElem_of_mem hm
      rw [List.getElem_take] at e
      rw [List.length_take] at hj
      have := List.pairwise_iff_getElem.1 hnd j k (by omega) hkl (by omega)
      exact this e
  have := this l.length (Nat.le_refl _)
  rw [List.take_length] at this
  exact this

/-- two near ones made one: made fewer it comes to the same -/
theorem fold_merge {g : Int} {A B D : List Sp} {a b h : Sp} (hs : SolidL (A ++ a :: (B ++ b :: D))) (e1 : h.1 = min a.1 b.1) (e2 : h.2 = max a.2 b.2) (hn : NearP g a b) :
    SolidL (A ++ h :: (B ++ D)) ∧ foldL g (A ++ h :: (B ++ D)) = foldL g (A ++ a :: (B ++ b :: D)) := by
  have sa := hs a (by simp)
  have sb := hs b (by simp)
  have hs2 : SolidL (A ++ h :: (B ++ D)) := by
    intro x hx
    simp only [List.mem_append, List.mem_cons] at hx
    rcases hx with hx | rfl | hx | hx
    · exact hs x (by simp [hx])
    · unfold Solid at *; omega
    · exact hs x (by simp [hx])
    · exact hs x (by simp [hx])
  have hcv : ∀ p, Cv g (A ++ h :: (B ++ D)) p ↔ Cv g (A ++ a :: (B ++ b :: D)) p :=
    cv_merge (R := A ++ (B ++ D)) (a := a) (b := b) (h := h)
      (fun x => by
        simp only [List.mem_append, List.mem_cons]
        constructor
        · rintro (k | k | k | k | k) <;> simp [k]
        · rintro ((k | k | k) | k | k) <;> simp [k])
      (fun x => by
        simp only [List.mem_append, List.mem_cons]
        constructor
        · rintro (k | k | k | k) <;> simp [k]
        · rintro ((k | k | k) | k) <;> simp [k])
      sa sb e1 e2 hn
  have hw : wideL g (A ++ h :: (B ++ D)) = wideL g (A ++ a :: (B ++ b :: D)) :=
    canon_unique (wideL_canon g _) (wideL_canon g _) fun p => by rw [wide_in hs2, wide_in hs, hcv p]
  refine ⟨hs2, ?_⟩
  unfold foldL
  rw [hw]
  obtain ⟨y, hy, ey, iy, _⟩ := comp_in (g := g) hs2 (x := h) (by simp)
  rw [hw] at hy ey
  have hc := wideL_canon g (A ++ a :: (B ++ b :: D))
  have hall : ∀ r, h.1 ≤ r → r < h.2 → InL (wideL g (A ++ a :: (B ++ b :: D))) r := fun r h1 h2 => by
    rw [← hw, wide_in hs2]
    exact .inl ⟨h, by simp, by unfold InS; have := hs2 h (by simp); unfold Solid at this; omega⟩
  unfold Solid at sa sb
  have ia : InS y a.1 := hc.one hy iy (by omega) fun r k1 k2 => hall r k1 (by omega)
  have ib : InS y b.1 := hc.one hy iy (by omega) fun r k1 k2 => hall r k1 (by omega)
  exact foldF_drop (compS_some hc hy ia) (compS_some hc hy ib) ey

theorem foldL_sub {g : Int} {l : List Sp} {y : Sp} (h : y ∈ foldL g l) : y ∈ wideL g l := by
  obtain ⟨x, _, e⟩ := foldF_mem.1 h
  exact List.mem_of_find?_eq_some e
theorem foldL_solid (g : Int) (l : List Sp) : SolidL (foldL g l) := fun _ hy => (wideL_canon g l).1 _ (foldL_sub hy)
theorem foldL_far (g : Int) (l : List Sp) : Far g (foldL g l) := by
  intro i j hi hj hij hn
  have hg := wide_gapped g l
  have hnd : (foldL g l).Nodup := foldF_nodup _ _
  have hi' := foldL_sub (List.getElem_mem hi)
  have hj' := foldL_sub (List.getElem_mem hj)
  obtain ⟨a, ha, ea⟩ := List.getElem_of_mem hi'
  obtain ⟨b, hb, eb⟩ := List.getElem_of_mem hj'
  have hne : a ≠ b := by
    intro e
    subst e
    rw [ea] at eb
    rcases Nat.lt_or_gt_of_ne hij with hlt | hlt
    · exact List.pairwise_iff_getElem.1 hnd i j hi hj hlt eb
    · exact List.pairwise_iff_getElem.1 hnd j i hj hi hlt eb.symm
  unfold NearP at hn
  rw [← ea, ← eb] at hn
  rcases Nat.lt_or_gt_of_ne hne with hlt | hlt
  · have := List.pairwise_iff_getElem.1 hg a b ha hb hlt; omega
  · have := List.pairwise_iff_getElem.1 hg b a hb ha hlt; omega
/-- it has all bytes of the wide ones -/
theorem foldL_all {g : Int} {l : List Sp} (hs : SolidL l) {y : Sp} (hy : y ∈ wideL g l) : y ∈ foldL g l := by
  have hc := wideL_canon g l
  have sy := hc.1 y hy
  unfold Solid at sy
  obtain ⟨i, hi, rfl⟩ := List.getElem_of_mem hy
  have hprev : ∀ p, p < (wideL g l)[i].1 → InL (wideL g l) p → ¬ (∀ r, p ≤ r → r ≤ (wideL g l)[i].1 → InL (wideL g l) r) := fun p hp hin hall => by
    obtain ⟨z, hz, hzi⟩ := hin
    have h2 := hc.one hz hzi (by omega) hall
    have e := hc.same hz hy h2 (by unfold InS; omega)
    rw [e] at hzi
    unfold InS at hzi; omega
  have hst : InL l (wideL g l)[i].1 := by
    rcases (wide_in hs _).1 ⟨_, hy, show InS _ (wideL g l)[i].1 by unfold InS; omega⟩ with h | ⟨u, hu, v, hv, k1, k2, k3⟩
    · exact h
    · have su := hs u hu
      unfold Solid at su
      exfalso
      refine hprev (u.2 - 1) (by omega) ((wide_in hs _).2 (.inl ⟨u, hu, by unfold InS; omega⟩)) fun r h1 h2 => ?_
      by_cases hr : r = u.2 - 1
      · subst hr; exact (wide_in hs _).2 (.inl ⟨u, hu, by unfold InS; omega⟩)
      · exact (wide_in hs _).2 (.inr ⟨u, hu, v, hv, by omega, by omega, k3⟩)
  obtain ⟨x, hx, hxi⟩ := hst
  unfold InS at hxi
  have hx1 : x.1 = (wideL g l)[i].1 := by
    by_cases h : x.1 = (wideL g l)[i].1
    · exact h
    · exfalso
      have hcx : ∀ r, x.1 ≤ r → r ≤ (wideL g l)[i].1 → InL (wideL g l) r := fun r h1 h2 => (wide_in hs _).2 (.inl ⟨x, hx, by unfold InS; omega⟩)
      exact hprev x.1 (by omega) (hcx _ (by omega) (by omega)) hcx
  exact foldF_mem.2 ⟨x, hx, compS_some hc hy (by unfold InS; omega)⟩
theorem foldL_in {g : Int} {l : List Sp} (hs : SolidL l) (p : Int) : InL (foldL g l) p ↔ InL (wideL g l) p :=
  ⟨fun ⟨y, hy, hp⟩ => ⟨y, foldL_sub hy, hp⟩, fun ⟨y, hy, hp⟩ => ⟨y, foldL_all hs hy, hp⟩⟩
theorem foldL_len (g : Int) (l : List Sp) : (foldL g l).length ≤ l.length := by
  have := foldF_len (wideL g l) l []
  unfold foldL foldF; simpa using this
end Go.Proofs.YtdmkfleiipfbgaaDoor
