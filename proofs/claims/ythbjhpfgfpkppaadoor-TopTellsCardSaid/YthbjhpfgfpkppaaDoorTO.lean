/-
  The four sets of TopTells in memory; acts; the map and the sets apart by their blocks' types.
-/
import Derived.Test.YthbjhpfgfpkppaaDoorTM
import Derived.Test.YthbjhpfgfpkppaaDoorIF
namespace Go.Proofs.YthbjhpfgfpkppaaDoor
open Go Go.RowKit

/-- a put: from, to, what is told, a drop? -/
abbrev Pt := Int × Int × Int × Bool
def PtAt (w : World) (B : Nat) (A : Option Addr) (l : List Pt) : Prop :=
  0 < l.length → ∃ b o, A = some ⟨b, o, none⟩ ∧ b < B ∧ ∀ j (h : j < l.length), w.cell? ⟨b, o + j * 4, none⟩ = some (.int .i64 l[j].1) ∧ w.cell? ⟨b, o + j * 4 + 1, none⟩ = some (.int .i64 l[j].2.1) ∧ w.cell? ⟨b, o + j * 4 + 2, none⟩ = some (.int .u8 l[j].2.2.1) ∧ w.cell? ⟨b, o + j * 4 + 3, none⟩ = some (.bool l[j].2.2.2)
theorem PtAt.below {w w' : World} {B B' : Nat} {A : Option Addr} {l : List Pt} (h : PtAt w B A l) (hb : Below B w w') (hB : B ≤ B') : PtAt w' B' A l := fun hl => by
  obtain ⟨b, o, e, hlt, hc⟩ := h hl
  refine ⟨b, o, e, by omega, fun j hj => ?_⟩
  rw [hb.cell (p := ⟨b, o + j * 4, none⟩) hlt, hb.cell (p := ⟨b, o + j * 4 + 1, none⟩) hlt, hb.cell (p := ⟨b, o + j * 4 + 2, none⟩) hlt, hb.cell (p := ⟨b, o + j * 4 + 3, none⟩) hlt]
  exact hc j hj
theorem PtAt.ext {w w' : World} {A : Option Addr} {l : List Pt} (h : PtAt w w.heap.size A l) (hb : Ext w w') : PtAt w' w'.heap.size A l := h.below hb hb.size
/-- what one act makes of runs; what acts make of none -/
def actP (D : List Rn) (x : Pt) : List Rn := if x.2.2.2 then dropI D x.1 x.2.1 else putI D x.1 x.2.1 (x.2.2.1 % 4)
def actsP (l : List Pt) : List Rn := l.foldl actP []
theorem actP_good {D : List Rn} (h : Good 0 none D) (x : Pt) : Good 0 none (actP D x) := by
  unfold actP; split
  · exact dropI_good _ _ h
  · exact putI_good _ _ _ h
theorem actP_len {D : List Rn} (h : Good 0 none D) (x : Pt) : (actP D x).length ≤ D.length + 2 := by
  unfold actP; split
  · have := dropI_len x.1 x.2.1 h; omega
  · exact putI_len _ _ _ h
theorem actP_told {D : List Rn} (h : Good 0 none D) (h4 : Told4 D) (x : Pt) : Told4 (actP D x) := by
  unfold actP; split
  · exact told4_drop h h4 _ _
  · exact told4_put h h4 _ _ (by omega)
theorem actsP_take {l : List Pt} {k : Nat} (h : k < l.length) : actsP (l.take (k + 1)) = actP (actsP (l.take k)) l[k] := by
  unfold actsP
  rw [List.take_succ_eq_append_getElem h, List.foldl_append]; rfl
theorem acts_facts : ∀ (l : List Pt) {D : List Rn}, Good 0 none D → Told4 D → Good 0 none (l.foldl actP D) ∧ Told4 (l.foldl actP D) ∧ (l.foldl actP D).length ≤ D.length + 2 * l.length
  | [], _, h, h4 => ⟨h, h4, by simp⟩
  | x :: l, D, h, h4 => by
    have h1 := acts_facts l (actP_good h x) (actP_told h h4 x)
    have h2 := actP_len h x
    refine ⟨h1.1, h1.2.1, ?_⟩
    have := h1.2.2
    simp only [List.foldl_cons, List.length_cons]; omega
theorem actsP_facts (l : List Pt) : Good 0 none (actsP l) ∧ Told4 (actsP l) ∧ (actsP l).length ≤ 2 * l.length := by
  have h := acts_facts l (D := []) trivial (fun r hr => by cases hr)
  simpa [actsP] using h

/-- four sets in a block: the call's own rows -/
def OfAt (W : World) (ob base : Nat) (D : Nat → List Sp) : Prop :=
  ∃ s0 s1 s2 s3 : Value, W.heap[ob]? = some (.cells #[s0, s1, s2, s3] 29 (0, 0)) ∧ Rg.OwnS W base s0 (D 0) ∧ Rg.OwnS W base s1 (D 1) ∧ Rg.OwnS W base s2 (D 2) ∧ Rg.OwnS W base s3 (D 3)
theorem OfAt.lt {W : World} {ob base : Nat} {D : Nat → List Sp} (h : OfAt W ob base D) : ob < W.heap.size := by
  obtain ⟨_, _, _, _, h, _⟩ := h
  exact (Array.getElem?_eq_some_iff.1 h).1
theorem own_ne {W : World} {base p : Nat} {v : Value} {l : List Sp} {o : Obj} (h : Rg.OwnS W base v l) (hp : W.heap[p]? = some o) (ho : ∀ cs, o ≠ .cells cs 31 (0, 0)) : ∀ k, v.ownBlock = some k → k ≠ p := fun k hk e => by
  subst e
  rcases h.2 with ⟨rfl, _⟩ | ⟨g, cap, cur, rfl, _, hg, _⟩
  · simp [Value.ownBlock] at hk
  · simp only [Value.ownBlock, Option.some.injEq] at hk
    subst hk
    rw [hp] at hg
    exact ho _ (Option.some.inj hg)
theorem OwnS.two {W W' : World} {base p : Nat} {r : Option Nat} {v : Value} {l : List Sp} (h : Rg.OwnS W base v l) (ht : Two W W' p r) (h1 : ∀ k, v.ownBlock = some k → k ≠ p) (h2 : ∀ k, v.ownBlock = some k → some k ≠ r) : Rg.OwnS W' base v l := by
  refine ⟨h.1, h.2.imp id fun ⟨g, c, cur, e1, e2, hg, rest⟩ => ⟨g, c, cur, e1, e2, ?_, rest⟩⟩
  have hk : v.ownBlock = some g := by rw [e1]; rfl
  rw [ht.block g (Array.getElem?_eq_some_iff.1 hg).1 (h1 g hk) (h2 g hk)]
  exact hg
theorem OfAt.two {W W' : World} {ob base mb b0 n c : Nat} {A : Option Addr} {L : List Rn} {D : Nat → List Sp} (h : OfAt W ob base D) (hm : MapAt W b0 mb A n c L) (ht : Two W W' mb (Value.slice A n c).ownBlock) : OfAt W' ob base D := by
  obtain ⟨s0, s1, s2, s3, hb, h0, h1, h2, h3⟩ := h
  have hbx : W.heap[mb]? = some (.cells #[.slice A n c] 48 (0, 0)) := hm.box
  have hmb : ob ≠ mb := fun e => by
    rw [e, hbx] at hb
    simp at hb
  have hrow : ∀ k, (Value.slice A n c).ownBlock = some k → ∃ cur, W.heap[k]? = some (.cells cur 61 (0, 0)) := fun k hk => by
    rcases hm.own.2 with ⟨e, _⟩ | ⟨g, cap, cur, e, _, hg, _⟩
    · rw [e] at hk; simp [Value.ownBlock] at hk
    · rw [e] at hk
      simp only [Value.ownBlock, Option.some.injEq] at hk
      exact ⟨cur, by rw [← hk]; exact hg⟩
  have hr : some ob ≠ (Value.slice A n c).ownBlock := fun e => by
    obtain ⟨cur, hc⟩ := hrow ob e.symm
    rw [hb] at hc
    simp at hc
  have own : ∀ {s : Value} {l : List Sp}, Rg.OwnS W base s l → Rg.OwnS W' base s l := fun hs =>
    OwnS.two hs ht (own_ne hs hbx (fun cs e => by simp at e)) fun k hk e => by
      obtain ⟨cur, hc⟩ := hrow k e.symm
      exact own_ne hs hc (fun cs e => by simp at e) k hk rfl
  exact ⟨s0, s1, s2, s3, by rw [ht.block ob (Array.getElem?_eq_some_iff.1 hb).1 hmb hr]; exact hb, own h0, own h1, own h2, own h3⟩
theorem OfAt.ext {W W' : World} {ob base : Nat} {D : Nat → List Sp} (h : OfAt W ob base D) (e : Ext W W') : OfAt W' ob base D := by
  obtain ⟨s0, s1, s2, s3, hb, h0, h1, h2, h3⟩ := h
  have own : ∀ {s : Value} {l : List Sp}, Rg.OwnS W base s l → Rg.OwnS W' base s l := fun hs =>
    World.ownsRow.kept (row := none) hs ⟨e.os, e.tape, e.output, e.size, fun k hk _ => e.block k hk⟩ (by
      rename_i s _
      cases hv : s.ownBlock with
      | none => exact .inl rfl
      | some g => exact .inr (by simp))
  exact ⟨s0, s1, s2, s3, (e.block ob (Array.getElem?_eq_some_iff.1 hb).1).trans hb, own h0, own h1, own h2, own h3⟩
theorem OfAt.congr {W : World} {ob base : Nat} {D E : Nat → List Sp} (h : OfAt W ob base D) (e : ∀ j, j < 4 → D j = E j) : OfAt W ob base E := by
  obtain ⟨s0, s1, s2, s3, hb, h0, h1, h2, h3⟩ := h
  rw [e 0 (by omega)] at h0
  rw [e 1 (by omega)] at h1
  rw [e 2 (by omega)] at h2
  rw [e 3 (by omega)] at h3
  exact ⟨s0, s1, s2, s3, hb, h0, h1, h2, h3⟩
/-- one of them, read -/
theorem OfAt.get {W : World} {ob base : Nat} {D : Nat → List Sp} (h : OfAt W ob base D) {j : Nat} (hj : j < 4) : ∃ (A : Option Addr) (n c : Nat), W.cell? ⟨ob, j, none⟩ = some (.slice A n c) ∧ (D j).length = n ∧ n ≤ c ∧ Rg.OwnS W base (.slice A n c) (D j) := by
  obtain ⟨s0, s1, s2, s3, hb, h0, h1, h2, h3⟩ := h
  have rd : ∀ {s : Value}, Rg.OwnS W base s (D j) → W.cell? ⟨ob, j, none⟩ = some s → ∃ (A : Option Addr) (n c : Nat), W.cell? ⟨ob, j, none⟩ = some (.slice A n c) ∧ (D j).length = n ∧ n ≤ c ∧ Rg.OwnS W base (.slice A n c) (D j) := fun hs hc => by
    obtain ⟨A, c, rfl, hle, _⟩ := Rg.IsSp.own hs
    exact ⟨A, _, c, hc, rfl, hle, hs⟩
  match j, hj with
  | 0, _ => exact rd h0 (by rw [cell_of_row W ob 0 _ _ _ hb]; rfl)
  | 1, _ => exact rd h1 (by rw [cell_of_row W ob 1 _ _ _ hb]; rfl)
  | 2, _ => exact rd h2 (by rw [cell_of_row W ob 2 _ _ _ hb]; rfl)
  | 3, _ => exact rd h3 (by rw [cell_of_row W ob 3 _ _ _ hb]; rfl)
theorem OfAt.free {W : World} {ob base : Nat} {D : Nat → List Sp} (h : OfAt W ob base D) (j : Nat) : W.frozen? ⟨ob, j, none⟩ = false := by
  obtain ⟨s0, s1, s2, s3, hb, _⟩ := h
  simp [World.frozen?, hb]
theorem OfAt.set {W : World} {ob base : Nat} {D : Nat → List Sp} (h : OfAt W ob base D) {j : Nat} (hj : j < 4) {v : Value} {l : List Sp} (hv : Rg.OwnS W base v l) : OfAt (W.setCell ⟨ob, j, none⟩ v) ob base (fun i => if i = j then l else D i) := by
  have hlt := h.lt
  obtain ⟨s0, s1, s2, s3, hb, h0, h1, h2, h3⟩ := h
  have own : ∀ {s : Value} {l : List Sp}, Rg.OwnS W base s l → Rg.OwnS (W.setCell ⟨ob, j, none⟩ v) base s l := fun hs =>
    OwnS.two hs (Two.but (But.setAt ob j W v)) (own_ne hs hb (fun cs e => by simp at e)) fun k hk e => own_ne hs hb (fun cs e => by simp at e) k hk (Option.some.inj e)
  have hh : (W.setCell ⟨ob, j, none⟩ v).heap[ob]? = some (.cells ((#[s0, s1, s2, s3] : Array Value).setIfInBounds j v) 29 (0, 0)) := by
    obtain ⟨hl, hk⟩ := Array.getElem?_eq_some_iff.1 hb
    show (W.heap.modify ob _)[ob]? = _
    rw [Array.getElem?_eq_getElem (by rw [Array.size_modify]; exact hl), Array.getElem_modify_self, hk]
    rfl
  match j, hj with
  | 0, _ => exact ⟨v, s1, s2, s3, hh, own hv, own h1, own h2, own h3⟩
  | 1, _ => exact ⟨s0, v, s2, s3, hh, own h0, own hv, own h2, own h3⟩
  | 2, _ => exact ⟨s0, s1, v, s3, hh, own h0, own h1, own hv, own h3⟩
  | 3, _ => exact ⟨s0, s1, s2, v, hh, own h0, own h1, own h2, own hv⟩
/-- the map goes by another block than the sets' -/
theorem MapAt.but {W W' : World} {base mb ob b0 n c : Nat} {A : Option Addr} {L : List Rn} {D : Nat → List Sp} (hm : MapAt W b0 mb A n c L) (h : OfAt W ob base D) (hb : But ob W W') : MapAt W' b0 mb A n c L := by
  obtain ⟨s0, s1, s2, s3, ho, _⟩ := h
  have hbx : W.heap[mb]? = some (.cells #[.slice A n c] 48 (0, 0)) := hm.box
  refine map_but hm hb (fun e => ?_) fun k hk e => ?_
  · rw [← e, hbx] at ho
    simp at ho
  · subst e
    rcases hm.own.2 with ⟨e, _⟩ | ⟨g, cap, cur, e, _, hg, _⟩
    · rw [e] at hk; simp [Value.ownBlock] at hk
    · rw [e] at hk
      simp only [Value.ownBlock, Option.some.injEq] at hk
      rw [hk, ho] at hg
      simp at hg
end Go.Proofs.YthbjhpfgfpkppaaDoor
