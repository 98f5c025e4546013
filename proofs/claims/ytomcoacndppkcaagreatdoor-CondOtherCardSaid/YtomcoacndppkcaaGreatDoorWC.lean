/-
  Tags that are read are right; a reading of right tags that lies apart from a block of conditions.
-/
import Derived.Test.YtomcoacndppkcaaGreatDoorWB
import Derived.Test.YtomcoacndppkcaaGreatDoorVA
namespace Go.Proofs.YtomcoacndppkcaaGreatDoor
open Go Go.RowKit
open T (Tg TgAt IsTg okS okT)

theorem read_ok (l : List UInt8) (h : (T.readL l).2 = true) : okS (T.readL l).1.1 = true := by
  unfold T.readL at h ⊢
  repeat' split
  all_goals simp_all [okS]
theorem stepT_ok {p : List UInt8} {acc a : List Tg} (h : okL acc = true) (e : T.stepT p acc = some a) : okL a = true := by
  unfold T.stepT at e
  split at e
  · cases e; exact h
  · split at e
    · rename_i hr
      cases e
      split
      · unfold okL at h ⊢
        rw [List.all_append, h, List.all_cons, List.all_nil, read_ok _ hr]; rfl
      · exact h
    · cases e
theorem goP_ok : ∀ (ps : List (List UInt8)) (acc a : List Tg), okL acc = true → T.goP ps acc = some a → okL a = true
  | [], acc, a, h, e => by cases e; exact h
  | p :: ps, acc, a, h, e => by
    unfold T.goP at e
    cases hs : T.stepT p acc with
    | none => rw [hs] at e; cases e
    | some b => rw [hs] at e; exact goP_ok ps b a (stepT_ok h hs) e
theorem listD_ok (s : List UInt8) : okL (T.listD s).1 = true := by
  unfold T.listD
  split
  · rfl
  · show okL (T.endP (T.restP true s [])).1 = true
    cases hr : T.restP true s [] with
    | none => rfl
    | some a =>
      have ha : okL a = true := goP_ok _ [] a rfl (by unfold T.restP at hr; rw [if_pos rfl] at hr; exact hr)
      simp only [T.endP]
      split
      · rfl
      · split
        · rfl
        · exact ha
theorem tgD_ok (v : List ByteArray) : okL (tgD v).1 = true := by
  unfold tgD
  split
  · rfl
  · split
    · rfl
    · exact listD_ok _

/-- a slice that does not lie in block b -/
def FarT (b : Nat) (v : Value) : Prop := ∀ A n c, v = .slice (some A) n c → 0 < n → A.block ≠ b
theorem tg_far {w : World} {b : Nat} {v : Value} {l : List Tg} (h : IsTg w v l) (hok : okL l = true) (hc : ∀ i, w.cell? ⟨b, i, none⟩ = (#[.slice none 0 0, .slice none 0 0, .bool false, .bool false, .int .i64 0, .int .i64 0, .string ⟨#[]⟩, .bool false] : Array Value)[i]?) : FarT b v := by
  intro A n c e hn hb
  obtain ⟨A', c', e', _, hs⟩ := h
  rw [e'] at e
  injection e with e1 e2 e3
  subst e1; subst e2
  obtain ⟨b', o, e4, _, hcc⟩ := hs hn
  obtain rfl := Option.some.inj e4
  subst hb
  obtain ⟨c0, -⟩ := hcc 0 hn
  have hs1 : okS l[0].1 = true := by
    unfold okL at hok; rw [List.all_eq_true] at hok; exact hok _ (List.getElem_mem hn)
  have hne : l[0].1 ≠ ⟨#[]⟩ := by
    intro q; rw [q] at hs1; exact absurd hs1 (by decide +kernel)
  rw [show o + 0 * 2 = o by omega, hc o] at c0
  match o, c0 with
  | 0, c0 => cases c0
  | 1, c0 => cases c0
  | 2, c0 => cases c0
  | 3, c0 => cases c0
  | 4, c0 => cases c0
  | 5, c0 => cases c0
  | 6, c0 => injection c0 with c0; injection c0 with c0; exact hne c0.symm
  | 7, c0 => cases c0
  | n + 8, c0 => simp at c0
theorem tg_setFar {w : World} {b i : Nat} {v x : Value} {l : List Tg} (h : IsTg w v l) (hf : FarT b v) : IsTg (w.setCell ⟨b, i, none⟩ x) v l := by
  obtain ⟨A, c, rfl, hl, hs⟩ := h
  refine ⟨A, c, rfl, hl, fun hn => ?_⟩
  obtain ⟨b', o, rfl, hb, hc⟩ := hs hn
  have hne : b ≠ b' := fun q => hf _ _ _ rfl hn q.symm
  refine ⟨b', o, rfl, by simpa using hb, fun j hj => ?_⟩
  rw [World.cell?_setCell_far w ⟨b, i, none⟩ ⟨b', o + j * 2, none⟩ x hne, World.cell?_setCell_far w ⟨b, i, none⟩ ⟨b', o + j * 2 + 1, none⟩ x hne]
  exact hc j hj
theorem tg_set8 {w : World} {b : Nat} {v x0 x1 x2 x3 x4 x5 x6 x7 : Value} {l : List Tg} (h : IsTg w v l) (hf : FarT b v) :
    IsTg ((((((((w.setCell ⟨b, 0, none⟩ x0).setCell ⟨b, 1, none⟩ x1).setCell ⟨b, 2, none⟩ x2).setCell ⟨b, 3, none⟩ x3).setCell ⟨b, 4, none⟩ x4).setCell ⟨b, 5, none⟩ x5).setCell ⟨b, 6, none⟩ x6).setCell ⟨b, 7, none⟩ x7) v l :=
  tg_setFar (tg_setFar (tg_setFar (tg_setFar (tg_setFar (tg_setFar (tg_setFar (tg_setFar h hf) hf) hf) hf) hf) hf) hf) hf
set_option maxHeartbeats 1000000 in
/-- eight cells of a block set anew -/
theorem set8 {w : World} {b : Nat} {x0 x1 x2 x3 x4 x5 x6 x7 y0 y1 y2 y3 y4 y5 y6 y7 : Value} (h0 : w.cell? ⟨b, 0, none⟩ = some y0) (h1 : w.cell? ⟨b, 1, none⟩ = some y1) (h2 : w.cell? ⟨b, 2, none⟩ = some y2) (h3 : w.cell? ⟨b, 3, none⟩ = some y3)
    (h4 : w.cell? ⟨b, 4, none⟩ = some y4) (h5 : w.cell? ⟨b, 5, none⟩ = some y5) (h6 : w.cell? ⟨b, 6, none⟩ = some y6) (h7 : w.cell? ⟨b, 7, none⟩ = some y7) :
    ∀ W, W = ((((((((w.setCell ⟨b, 0, none⟩ x0).setCell ⟨b, 1, none⟩ x1).setCell ⟨b, 2, none⟩ x2).setCell ⟨b, 3, none⟩ x3).setCell ⟨b, 4, none⟩ x4).setCell ⟨b, 5, none⟩ x5).setCell ⟨b, 6, none⟩ x6).setCell ⟨b, 7, none⟩ x7) →
      W.cell? ⟨b, 0, none⟩ = some x0 ∧ W.cell? ⟨b, 1, none⟩ = some x1 ∧ W.cell? ⟨b, 2, none⟩ = some x2 ∧ W.cell? ⟨b, 3, none⟩ = some x3 ∧ W.cell? ⟨b, 4, none⟩ = some x4 ∧ W.cell? ⟨b, 5, none⟩ = some x5 ∧ W.cell? ⟨b, 6, none⟩ = some x6 ∧ W.cell? ⟨b, 7, none⟩ = some x7 := by
  rintro W rfl
  refine ⟨?_, ?_, ?_, ?_, ?_, ?_, ?_, ?_⟩ <;> go_simp
end Go.Proofs.YtomcoacndppkcaaGreatDoor
