/-
  Of and Spans, with what they own; the bytes that an operation keeps; a slice too long.
-/
import Derived.Test.YthbjhpfgfpkppaaDoorCC
namespace Go.Proofs.YthbjhpfgfpkppaaDoor.Rg
open Go Go.RowKit
open Go.Sort (grow)
theorem own_mono {W : World} {base base' e size n : Nat} {v : Value} {xs : List Value} (h : W.ownsRow base' e size v n xs) (hb : base ≤ base') : W.ownsRow base e size v n xs :=
  ⟨h.1, h.2.imp id fun ⟨g, c, cur, e1, e2, r⟩ => ⟨g, c, cur, e1, Nat.le_trans hb e2, r⟩⟩
theorem norm_has (l : List Sp) (p : Int) : anyHas (normL l) p = anyHas l p := by
  have h := (normL_norm l).2 p
  rw [← anyHas_iff, ← anyHas_iff] at h
  cases h1 : anyHas (normL l) p <;> cases h2 : anyHas l p <;> simp_all



theorem Cmb.run {f : Bool → Bool → Bool} (hf : f false false = false) {S T : List Sp} (hS : Canon S) (hT : Canon T) : ∀ (d : Nat) {i j : Nat} {out : List Sp} {fr b : Int} {kp : Bool}, Cmb f S T i j out fr kp b → 2 * S.length + 2 * T.length - (i + j) ≤ d →
    ∃ out', Canon out' ∧ ∀ p, InL out' p ↔ f (anyHas S p) (anyHas T p) = true
  | d, i, j, out, fr, b, kp, h, hd => by
    by_cases hgo : i < 2 * S.length ∨ j < 2 * T.length
    · have hs := Cmb.step hS hT h hgo rfl rfl rfl
      have h1 := h.hi; have h2 := h.hj
      have hm := hs.2.2.2
      cases d with
      | zero => exfalso; omega
      | succ d => exact Cmb.run hf hS hT d hs.1 (by omega)
    · exact ⟨out, Cmb.done hf h (by omega) (by omega)⟩
theorem keepL_spec (op : Int) {a b : List Sp} (ha : Canon a) (hb : Canon b) : Canon (keepL op a b) ∧ ∀ p, anyHas (keepL op a b) p = bopB op (anyHas a p) (anyHas b p) := by
  obtain ⟨out, h1, h2⟩ := Cmb.run (bopB_ff op) ha hb _ (Cmb.start (bopB_ff op) ha hb) (Nat.le_refl _)
  have e := keepL_is (op := op) h1 h2
  rw [← e]
  refine ⟨h1, fun p => ?_⟩
  have k := h2 p
  rw [← anyHas_iff] at k
  cases h : anyHas out p <;> cases h' : bopB op (anyHas a p) (anyHas b p) <;> simp_all
theorem same_has {a b : List Sp} (ha : Canon a) (hb : Canon b) (h : ∀ p, anyHas a p = anyHas b p) : a = b :=
  canon_unique ha hb fun p => by rw [← anyHas_iff, ← anyHas_iff, h p]

set_option maxHeartbeats 8000000 in
set_option maxRecDepth 100000 in
theorem Of_own (A : Option Addr) (c : Nat) (l : List Sp) (w : World) (hm : l.length ≤ 1000000) (hs : SpAt w w.heap.size A l) :
    Calls Tryd.prog 6 #[.slice A l.length c] w fun e w' => ∃ v out, e = .returned (.agg #[v]) ∧ OwnS w' (w.heap.size + 1) v out ∧ Canon out ∧ (∀ p, InL out p ↔ InL l p) ∧ out.length ≤ l.length ∧ Below w.heap.size w w' := by
  have HS := Lib.hid hs
  clear hs
  obtain ⟨n, HL⟩ : ∃ n, Hid (l.length = n) := ⟨_, rfl⟩
  have hn : n ≤ 1000000 := by have := HL.out; omega
  rw [show l.length = n from HL.out]
  clear hm
  go_enter Tryd.func6, Tryd.ntmps6
  go_wp2
  go_loopw [3, 8] (fun v i wr => ∃ (k : Nat) (acc : List Sp), k ≤ n ∧ i = .int .i64 k ∧ OwnS wr (w.heap.size + 1) v acc ∧ acc.length ≤ k ∧ Hid (acc = solidL (l.take k)) ∧ Below (w.heap.size + 1) (w.alloc (.cells #[.slice none 0 0] 28)) wr) (fun _ i _ => n - (intOf i).toNat)
  case atStart => exact ⟨0, [], Nat.zero_le _, rfl, World.ownsRow_nil _ _ _ _, by simp, rfl, Below.refl _ _⟩
  case round =>
    obtain ⟨k, acc, hk, rfl, hown, hal, HG, hbel⟩ := hrel
    have hwz : w.heap.size + 1 ≤ wr.heap.size := by have := hbel.size; simpa using this
    have B0 : Below w.heap.size w wr := Below.trans ((Below.refl _ _).alloc (Nat.le_refl _) _) (hbel.mono (Nat.le_succ _))
    by_cases hlt : k < n
    · have hkl : k < l.length := by have := HL.out; omega
      obtain ⟨b, o, rfl, hbb, hc⟩ := (HS.out.below B0 (Nat.le_refl _)) (by omega)
      obtain ⟨c0, c1⟩ := hc k hkl
      clear hc B0
      have HT := Lib.hid (solidL_take hkl)
      generalize l[k] = X at *
      obtain ⟨x, y⟩ := X
      simp only at HT c0 c1
      have hbz : b < wr.heap.size := by omega
      have e1 : Ext wr (wr.alloc (.cells #[.int .i64 x, .int .i64 y] 31)) := (Below.refl _ _).alloc (Nat.le_refl _) _
      by_cases hpos : 0 < lenI x y
      · have HF : Hid (acc ++ [(x, y)] = solidL (l.take (k + 1))) := by unfold Hid; rw [HT.out, if_pos hpos, HG.out]
        clear HT HG
        have hlen := fun W => len_any x y W
        have HP := Lib.hid hpos
        have hgt : decide (lenI x y > 0) = true := by simpa using hpos
        generalize lenI x y = L at *
        go_wp2_with (first
          | (go_at_call 17; with_reducible refine (hlen _).mono ?_; rintro e w1 ⟨rfl, hb1⟩; obtain ⟨hc1, hf1⟩ := bcell hb1; have hz1 : wr.heap.size < w1.heap.size := (by have := hb1.size; simp only [World.size_alloc] at this; omega); have e2 := e1.tr hb1; have own1 := Below.own hown e2; have B1 : Below (w.heap.size + 1) (w.alloc (.cells #[.slice none 0 0] 28)) w1 := hbel.trans (e2.mono hwz); clear hb1 hlen e2 hown hbel; have tok : True := trivial)
          | (at_builtin; have _t := tok; refine app_span w1 (by rfl) _ _ (by rfl) (w.heap.size + 1) _ acc x y (by rfl) own1 (by rfl) (by omega) (by omega) ?_; intro v3 w3 hown3 hgrow; have B3 : Below (w.heap.size + 1) (w.alloc (.cells #[.slice none 0 0] 28)) w3 := below_app B1 (by omega) own1 hgrow; clear hgrow own1 B1 tok))
        go_roundw
        case rel => exact ⟨k + 1, acc ++ [(x, y)], by omega, by go_num, hown3, by simp; omega, HF, B3⟩
        case measure => simp [intOf]; omega
      · have HF : Hid (acc = solidL (l.take (k + 1))) := by unfold Hid; rw [HT.out, if_neg hpos, HG.out]
        clear HT HG
        have hlen := fun W => len_any x y W
        have hgt : decide (lenI x y > 0) = false := by simpa using hpos
        have hng : lenI x y ≤ 0 := by omega
        generalize lenI x y = L at *
        go_wp2_with (go_at_call 17; with_reducible refine (hlen _).mono ?_; rintro e w1 ⟨rfl, hb1⟩; have e2 := e1.tr hb1; have own1 := Below.own hown e2; have B1 : Below (w.heap.size + 1) (w.alloc (.cells #[.slice none 0 0] 28)) w1 := hbel.trans (e2.mono hwz); clear hb1 hlen e2 hown hbel)
        go_roundw
        case rel => exact ⟨k + 1, acc, by omega, by go_num, own1, by omega, HF, B1⟩
        case measure => simp [intOf]; omega
    · obtain rfl : k = n := by omega
      have HF : Hid (acc = solidL l) := by have := HG.out; rwa [List.take_of_length_le (by have := HL.out; omega)] at this
      clear HG
      go_wp2_with (first
        | (go_at_call 18; refine (sort_any (w.heap.size + 1) _ acc _ (by omega) hwz hown).mono ?_; rintro e w1 ⟨rfl, l', hp, hs, hsp, B1⟩; obtain ⟨A2, n2, c2, rfl, HN2, hc2, hs2⟩ := hsp.split; have HP := Lib.hid hp; have HSo := Lib.hid hs; have HS2 := Lib.hid hs2; clear hp hs hs2 hown)
        | (go_at_call 21; have hok := of_ok (by rw [← HF.out]; exact HP.out) HSo.out; have HOK := Lib.hid hok; have hl6 : l'.length ≤ 1000000 := (by have := hok.2.2.2.2; have := HL.out; omega); refine (closed_n HN2.out 0 A2 c2 _ hl6 hok.2.2.2.1 HS2.out).mono ?_; rintro e w2 ⟨v2, rfl, hown2, hb2⟩; have Bt : Below (w.heap.size + 1) (w.alloc (.cells #[.slice none 0 0] 28)) w2 := (hbel.trans B1).trans (hb2.mono (Nat.le_trans hwz B1.size)); have cz : w2.cell? ⟨w.heap.size, 0, none⟩ = some (.slice none 0 0) := (by rw [Bt.cell (p := ⟨w.heap.size, 0, none⟩) (Nat.lt_succ_self _)]; simp); have fz : w2.frozen? ⟨w.heap.size, 0, none⟩ = false := (by rw [Bt.frozen (p := ⟨w.heap.size, 0, none⟩) (Nat.lt_succ_self _)]; simp); have hw1z := Nat.le_trans hwz B1.size; obtain ⟨A3, n3, c3, rfl, HN3, hc3, -⟩ := (IsSp.own hown2).split; clear hok hbel B1 hb2))
      have B4 : Below w.heap.size w w2 := Below.trans ((Below.refl _ _).alloc (Nat.le_refl _) _) (Bt.mono (Nat.le_succ _))
      have hsp2 := own_mono (ownsRow_setCell_below hown2 (a := ⟨w.heap.size, 0, none⟩) hw1z (.slice A3 n3 c3)) hw1z
      exact bodyPost_ret (v := .agg #[.slice A3 n3 c3]) (by simp [results, Tryd.results6, go_sem, cz]) rfl ⟨.slice A3 n3 c3, _, rfl, hsp2, HOK.out.1, HOK.out.2.1, by have := HOK.out.2.2.1; have := HL.out; omega, B4.setCell (Nat.le_refl _) _⟩
set_option maxHeartbeats 2000000 in
theorem Spans_own (A : Option Addr) (n c : Nat) (l : List Sp) (w : World) (hn : l.length = n) (hm : n ≤ 1000000) (hs : SpAt w w.heap.size A l) :
    Calls Tryd.prog 13 #[.agg #[.slice A n c]] w fun e w' => ∃ v, e = .returned v ∧ OwnS w' w.heap.size v l ∧ Below w.heap.size w w' := by
  have HC := fun W (hW : Ext w W) => clone_any A n c l W hn hm (hs.below hW hW.size)
  clear hs hn
  go_enter Tryd.func13, Tryd.ntmps13
  go_wp2_with (go_at_call 33; refine (HC _ (by go_grown)).mono ?_; rintro e w1 ⟨v, rfl, hown, hb1⟩; have B1 := bel (w := w) (by go_grown) hb1; have HO := Lib.hid (own_mono (base := w.heap.size) hown (by simp)); clear hb1 hown HC)
  go_ret
  exact ⟨_, rfl, HO.out, B1⟩

end Go.Proofs.YthbjhpfgfpkppaaDoor.Rg
