/-
  ranges.Of, its result in memory of the call's own; ranges asked for without a length: Cover, the program's and the reference's.
-/
import Derived.Test.YtdmkfleiipfbgaaDoorPI
namespace Go.Proofs.YtdmkfleiipfbgaaDoor
open Go Go.RowKit
open Go.Sort (grow)

def SetPostO (n : Nat) (P : Int → Prop) (w w' : World) (e : Ending) : Prop :=
  ∃ v out, e = .returned (.agg #[v]) ∧ OwnS w' w.heap.size v out ∧ Canon out ∧ (∀ p, InL out p ↔ P p) ∧ out.length ≤ n ∧ Below w.heap.size w w'

set_option maxHeartbeats 8000000 in
set_option maxRecDepth 100000 in
theorem OfO_any (A : Option Addr) (c : Nat) (l : List Sp) (w : World) (hm : l.length ≤ 1000000) (hs : SpAt w w.heap.size A l) :
    Calls Tryd.prog 50 #[.slice A l.length c] w fun e w' => SetPostO l.length (InL l) w w' e := by
  have HS := Lib.hid hs
  clear hs
  obtain ⟨n, HL⟩ : ∃ n, Hid (l.length = n) := ⟨_, rfl⟩
  have hn : n ≤ 1000000 := by have := HL.out; omega
  rw [show l.length = n from HL.out]
  clear hm
  go_enter Tryd.func50, Tryd.ntmps50
  go_wp2
  go_loopw [3, 8] (fun v i wr => ∃ (k : Nat) (acc : List Sp), k ≤ n ∧ i = .int .i64 k ∧ OwnS wr (w.heap.size + 1) v acc ∧ acc.length ≤ k ∧ Hid (acc = solidL (l.take k)) ∧ Below (w.heap.size + 1) (w.alloc (.cells #[.slice none 0 0] 48)) wr) (fun _ i _ => n - (intOf i).toNat)
  case atStart => exact ⟨0, [], Nat.zero_le _, rfl, World.ownsRow_nil _ _ _ _, by simp, rfl, Below.refl _ _⟩
  case round =>
    obtain ⟨k, acc, hk, rfl, hown, hal, HG, hbel⟩ := hrel
    have hwz : w.heap.size + 1 ≤ wr.heap.size := by have := hbel.size; simpa using this
    have B0 : Below w.heap.size w wr := Below.trans ((Below.refl _ _).alloc (Nat.le_refl _) _) (hbel.mono (Nat.le_succ _))
    by_cases hlt : k < n
    · have hkl : k < l.length := by have := HL.out; omega
      obtain ⟨b, o, rfl, hbb, hc⟩ := (HS.out.below B0 (Nat.le_refl _)) (by omega)
      obtain ⟨c0, c1⟩ := hc k hkl
      clear hc B0
      have HT := Lib.hid (solidL_take hkl)
      generalize l[k] = X at *
      obtain ⟨x, y⟩ := X
      simp only at HT c0 c1
      have hbz : b < wr.heap.size := by omega
      have e1 : Ext wr (wr.alloc (.cells #[.int .i64 x, .int .i64 y] 39)) := (Below.refl _ _).alloc (Nat.le_refl _) _
      by_cases hpos : 0 < lenI x y
      · have HF : Hid (acc ++ [(x, y)] = solidL (l.take (k + 1))) := by unfold Hid; rw [HT.out, if_pos hpos, HG.out]
        clear HT HG
        have hlen := fun W => len_any x y W
        have HP := Lib.hid hpos
        have hgt : decide (lenI x y > 0) = true := by simpa using hpos
        generalize lenI x y = L at *
        go_wp2_with (first
          | (go_at_call 48; with_reducible refine (hlen _).mono ?_; rintro e w1 ⟨rfl, hb1⟩; obtain ⟨hc1, hf1⟩ := bcell hb1; have hz1 : wr.heap.size < w1.heap.size := (by have := hb1.size; simp only [World.size_alloc] at this; omega); have e2 := e1.tr hb1; have own1 := Below.own hown e2; have B1 : Below (w.heap.size + 1) (w.alloc (.cells #[.slice none 0 0] 48)) w1 := hbel.trans (e2.mono hwz); clear hb1 hlen e2 hown hbel; have tok : True := trivial)
          | (at_builtin; have _t := tok; refine app_span w1 (by rfl) _ _ (by rfl) (w.heap.size + 1) _ acc x y (by rfl) own1 (by rfl) (by omega) (by omega) ?_; intro v3 w3 hown3 hgrow; have B3 : Below (w.heap.size + 1) (w.alloc (.cells #[.slice none 0 0] 48)) w3 := below_app B1 (by omega) own1 hgrow; clear hgrow own1 B1 tok))
        go_roundw
        case rel => exact ⟨k + 1, acc ++ [(x, y)], by omega, by go_num, hown3, by simp; omega, HF, B3⟩
        case measure => simp [intOf]; omega
      · have HF : Hid (acc = solidL (l.take (k + 1))) := by unfold Hid; rw [HT.out, if_neg hpos, HG.out]
        clear HT HG
        have hlen := fun W => len_any x y W
        have hgt : decide (lenI x y > 0) = false := by simpa using hpos
        have hng : lenI x y ≤ 0 := by omega
        generalize lenI x y = L at *
        go_wp2_with (go_at_call 48; with_reducible refine (hlen _).mono ?_; rintro e w1 ⟨rfl, hb1⟩; have e2 := e1.tr hb1; have own1 := Below.own hown e2; have B1 : Below (w.heap.size + 1) (w.alloc (.cells #[.slice none 0 0] 48)) w1 := hbel.trans (e2.mono hwz); clear hb1 hlen e2 hown hbel)
        go_roundw
        case rel => exact ⟨k + 1, acc, by omega, by go_num, own1, by omega, HF, B1⟩
        case measure => simp [intOf]; omega
    · obtain rfl : k = n := by omega
      have HF : Hid (acc = solidL l) := by have := HG.out; rwa [List.take_of_length_le (by have := HL.out; omega)] at this
      clear HG
      go_wp2_with (first
        | (go_at_call 75; refine (sort_any (w.heap.size + 1) _ acc _ (by omega) hwz hown).mono ?_; rintro e w1 ⟨rfl, l', hp, hs, hsp, B1⟩; obtain ⟨A2, n2, c2, rfl, HN2, hc2, hs2⟩ := hsp.split; have HP := Lib.hid hp; have HSo := Lib.hid hs; have HS2 := Lib.hid hs2; clear hp hs hs2 hown)
        | (go_at_call 78; have hok := of_ok (by rw [← HF.out]; exact HP.out) HSo.out; have HOK := Lib.hid hok; have hl6 : l'.length ≤ 1000000 := (by have := hok.2.2.2.2; have := HL.out; omega); refine (closed_n HN2.out 0 A2 c2 _ hl6 hok.2.2.2.1 HS2.out).mono ?_; rintro e w2 ⟨v2, rfl, hown2, hb2⟩; have Bt : Below (w.heap.size + 1) (w.alloc (.cells #[.slice none 0 0] 48)) w2 := (hbel.trans B1).trans (hb2.mono (Nat.le_trans hwz B1.size)); have cz : w2.cell? ⟨w.heap.size, 0, none⟩ = some (.slice none 0 0) := (by rw [Bt.cell (p := ⟨w.heap.size, 0, none⟩) (Nat.lt_succ_self _)]; simp); have fz : w2.frozen? ⟨w.heap.size, 0, none⟩ = false := (by rw [Bt.frozen (p := ⟨w.heap.size, 0, none⟩) (Nat.lt_succ_self _)]; simp); have hw1z := Nat.le_trans hwz B1.size; obtain ⟨A3, n3, c3, rfl, HN3, hc3, -⟩ := (IsSp.own hown2).split; clear hok hbel B1 hb2))
      have B4 : Below w.heap.size w w2 := Below.trans ((Below.refl _ _).alloc (Nat.le_refl _) _) (Bt.mono (Nat.le_succ _))
      have hsp2 := own_base (ownsRow_setCell_below hown2 (a := ⟨w.heap.size, 0, none⟩) hw1z (.slice A3 n3 c3)) (b := w.heap.size) (by omega)
      exact bodyPost_ret (v := .agg #[.slice A3 n3 c3]) (by simp [results, Tryd.results50, go_sem, cz]) rfl ⟨.slice A3 n3 c3, _, rfl, hsp2, HOK.out.1, HOK.out.2.1, by have := HOK.out.2.2.1; have := HL.out; omega, B4.setCell (Nat.le_refl _) _⟩

theorem OfO_n (A : Option Addr) (n c : Nat) (l : List Sp) (w : World) (hn : l.length = n) (hm : n ≤ 1000000) (hs : SpAt w w.heap.size A l) :
    Calls Tryd.prog 50 #[.slice A n c] w fun e w' => ∃ v, e = .returned (.agg #[v]) ∧ OwnS w' w.heap.size v (normL l) ∧ Below w.heap.size w w' := by
  subst hn
  exact (OfO_any A c l w hm hs).mono fun e w' ⟨v, out, he, h1, h2, h3, h4, h5⟩ => ⟨v, he, (Norm.is (l := l) ⟨h2, h3⟩) ▸ h1, h5⟩

/-- a range of the last bytes stands among them -/
def anyLast (l : List Sp) : Bool := l.any fun x => decide (x.1 = -1)
theorem anyLast_take {l : List Sp} {k : Nat} (h : k < l.length) : anyLast (l.take (k + 1)) = (anyLast (l.take k) || decide (l[k].1 = -1)) := by
  unfold anyLast; rw [List.take_succ_eq_append_getElem h, List.any_append, List.any_cons, List.any_nil, Bool.or_false]
theorem anyLast_at {l : List Sp} {k : Nat} (h : k < l.length) (hk : l[k].1 = -1) : anyLast l = true := by
  unfold anyLast; rw [List.any_eq_true]; exact ⟨l[k], List.getElem_mem h, by simpa using hk⟩
theorem anyLast_f {l : List Sp} (h : anyLast l = false) : ∀ x ∈ l, x.1 ≠ -1 := by
  unfold anyLast at h; rw [List.any_eq_false] at h
  intro x hx; have := h x hx; simpa using this
/-- what is asked without a length -/
noncomputable def covL (l : List Sp) : List Sp := if anyLast l = true then [] else normL (resL 4611686018427387904 l)
def covB (l : List Sp) : Bool := !anyLast l && decide (0 < l.length)
theorem res_open {l : List Sp} (hr : allR l = true) (hl : anyLast l = false) : resL 4611686018427387904 l = l.map (askS 4611686018427387904) := by
  unfold resL solidL
  rw [List.filter_eq_self]
  intro x hx
  obtain ⟨y, hy, rfl⟩ := List.mem_map.1 hx
  have a := srB_iff.1 (List.all_eq_true.1 hr y hy)
  have b := anyLast_f hl y hy
  have c := SR.of (List.all_eq_true.1 hr y hy)
  have d := (ask_pos c (t := 4611686018427387904) (by decide) (by decide)).2 (by
    unfold askA askZ mnI
    rw [if_neg b, if_neg b]
    split <;> omega)
  exact decide_eq_true d
theorem ask_open {a b : Int} (h : SR a b) (ha : a ≠ -1) : askS 4611686018427387904 (a, b) = (a, if 0 ≤ b then b + 1 else 4611686018427387904) := by
  unfold SR at h
  unfold askS askA askZ mnI
  simp only
  rw [if_neg ha, if_neg ha]
  by_cases hb : b = -1
  · subst hb; simp
  · rw [if_neg hb, if_pos (by omega)]
    congr 1; omega

set_option maxHeartbeats 4000000 in
theorem cover_any (A : Option Addr) (n c : Nat) (l : List Sp) (w : World) (hn : l.length = n) (hm : n ≤ 100000) (hr : allR l = true) (hs : SpAt w w.heap.size A l) :
    Calls Tryd.prog 31 #[.slice A n c] w fun e w' => ∃ v, e = .returned (.tuple #[v, .bool (covB l)]) ∧ IsSet w' v (covL l) ∧ Below w.heap.size w w' := by
  have hRe := fun W (hW : Ext w W) => resolve_any 4611686018427387904 A n c l W hn (by omega) (SRL.of hr) (by decide) (by decide) (hs.below hW hW.size)
  unfold ResPost at hRe
  have HS := Lib.hid hs
  clear hs
  have HL := Lib.hid hn
  clear hn
  have HR := Lib.hid hr
  clear hr
  have e0 : Ext w (w.alloc (.cells #[.slice none 0 0] 48)) := (Below.refl _ _).alloc (Nat.le_refl _) _
  have f0 : (w.alloc (.cells #[.slice none 0 0] 48)).cell? ⟨w.heap.size, 0, none⟩ = some (.slice none 0 0) := by simp
  have f1 : (w.alloc (.cells #[.slice none 0 0] 48)).frozen? ⟨w.heap.size, 0, none⟩ = false := by simp
  have f2 : (w.alloc (.cells #[.slice none 0 0] 48)).heap.size = w.heap.size + 1 := by simp
  go_enter Tryd.func31, Tryd.ntmps31
  go_wp2
  generalize w.alloc (.cells #[.slice none 0 0] 48) = w0 at *
  go_loopw [10] (fun i wr => ∃ k : Nat, k ≤ n ∧ i = .int .i64 k ∧ Hid (anyLast (l.take k) = false) ∧ Below w0.heap.size w0 wr) (fun i _ => n - (intOf i).toNat)
  case atStart => exact ⟨0, Nat.zero_le _, rfl, rfl, Below.refl _ _⟩
  case round =>
    obtain ⟨k, hk, rfl, HG, hbel⟩ := hrel
    have Bw : Ext w wr := Ext.tr e0 hbel
    have hz : w.heap.size < wr.heap.size := by have := hbel.size; omega
    have k0 : wr.cell? ⟨w.heap.size, 0, none⟩ = some (.slice none 0 0) := by rw [hbel.cell (p := ⟨w.heap.size, 0, none⟩) (by show w.heap.size < _; omega)]; exact f0
    have k1 : wr.frozen? ⟨w.heap.size, 0, none⟩ = false := by rw [hbel.frozen (p := ⟨w.heap.size, 0, none⟩) (by show w.heap.size < _; omega)]; exact f1
    by_cases hlt : k < n
    · have hkl : k < l.length := by have := HL.out; omega
      obtain ⟨b, o, rfl, hbb, hc⟩ := (HS.out.below Bw (Nat.le_refl _)) (by omega)
      obtain ⟨c0, c1⟩ := hc k hkl
      clear hc
      have HT := Lib.hid (anyLast_take hkl)
      have HX : Hid (∀ z, l[k].1 = z → z = -1 → anyLast l = true) := fun z h1 h2 => anyLast_at hkl (h1.trans h2)
      have HZ : Hid (l[k].1 = l[k].1) := rfl
      generalize l[k].1 = x at *
      generalize l[k].2 = y at *
      have hbz : b < wr.heap.size := by omega
      have e1 : Ext wr (wr.alloc (.cells #[.int .i64 x, .int .i64 y] 32)) := (Below.refl _ _).alloc (Nat.le_refl _) _
      by_cases hx : x = -1
      · subst hx
        have HF : Hid (anyLast l = true) := HX.out _ HZ.out rfl
        have HB : Hid (Below w.heap.size w ((wr.setCell ⟨w.heap.size, 0, none⟩ (.slice none 0 0)).alloc (.cells #[.int .i64 (-1), .int .i64 y] 32))) := (Bw.setCell (Nat.le_refl _) _).alloc (by simp; omega) _
        clear HT HG HX HZ
        go_wp2
        exact bodyPost_ret (v := .tuple #[.agg #[.slice none 0 0], .bool false]) (by simp [results, Tryd.results31, go_sem, k0, hz]) rfl ⟨.agg #[.slice none 0 0], by simp [covB, HF.out], ⟨_, rfl, by rw [covL, if_pos HF.out]; exact IsSp.nil _, by rw [covL, if_pos HF.out]; exact Canon.nil⟩, HB.out⟩
      · have hx1 : (x == -1) = false := by simpa using hx
        have HF : Hid (anyLast (l.take (k + 1)) = false) := by unfold Hid; rw [HT.out, HG.out]; simpa using hx
        have B2 : Below w0.heap.size w0 (wr.alloc (.cells #[.int .i64 x, .int .i64 y] 32)) := Ext.tr hbel e1
        clear HT HG HX HZ
        go_wp2
        go_roundw
        case rel => exact ⟨k + 1, by omega, by go_num, HF, B2⟩
        case measure => simp [intOf]; omega
    · obtain rfl : k = n := by omega
      have HF : Hid (anyLast l = false) := by have := HG.out; rwa [List.take_of_length_le (by have := HL.out; omega)] at this
      clear HG
      have HRO := Lib.hid (res_open HR.out HF.out)
      have HCB : Hid (covB l = decide (0 < (resL 4611686018427387904 l).length)) := by unfold Hid covB; rw [HF.out, HRO.out, List.length_map]; rfl
      have HCL : Hid (covL l = normL (resL 4611686018427387904 l)) := by unfold Hid covL; rw [if_neg (by rw [HF.out]; decide)]
      have hrl := resL_len 4611686018427387904 l
      have HRN : Hid ((resL 4611686018427387904 l).length ≤ 1000000) := by unfold Hid; have := HL.out; omega
      clear hrl HRO
      generalize resL 4611686018427387904 l = R at *
      go_wp2_with fail
      refine (hRe _ Bw).mono ?_
      rintro e w2 ⟨v2, rfl, hown2, hb2⟩
      obtain ⟨A2, n2, c2, rfl, HN2, hc2, hs2⟩ := (IsSp.own hown2).split
      have hof := OfO_n A2 n2 c2 R w2 HN2.out (by have := HN2.out; have := HRN.out; omega) hs2
      have m0 : w2.cell? ⟨w.heap.size, 0, none⟩ = some (.slice none 0 0) := (by rw [hb2.cell (p := ⟨w.heap.size, 0, none⟩) hz]; exact k0)
      have m1 : w2.frozen? ⟨w.heap.size, 0, none⟩ = false := (by rw [hb2.frozen (p := ⟨w.heap.size, 0, none⟩) hz]; exact k1)
      have hz2 : w.heap.size < w2.heap.size := Nat.lt_of_lt_of_le hz hb2.size
      have B2 := Ext.tr Bw hb2
      clear hs2 hown2 hRe
      go_wp2_with fail
      refine hof.mono ?_
      rintro e w3 ⟨v3, rfl, hown3, hb3⟩
      obtain ⟨A3, n3, c3, rfl, HN3, hc3, -⟩ := (IsSp.own hown3).split
      have B3 := Ext.tr B2 hb3
      have p0 : w3.cell? ⟨w.heap.size, 0, none⟩ = some (.slice none 0 0) := (by rw [hb3.cell (p := ⟨w.heap.size, 0, none⟩) hz2]; exact m0)
      have p1 : w3.frozen? ⟨w.heap.size, 0, none⟩ = false := (by rw [hb3.frozen (p := ⟨w.heap.size, 0, none⟩) hz2]; exact m1)
      have HO := Lib.hid (IsSp.own (ownsRow_setCell_below hown3 (a := ⟨w.heap.size, 0, none⟩) hz2 (.slice A3 n3 c3)))
      have HB : Hid (Below w.heap.size w (w3.setCell ⟨w.heap.size, 0, none⟩ (.slice A3 n3 c3))) := B3.setCell (Nat.le_refl _) _
      clear hown3 hof
      go_wp2_with fail
      exact bodyPost_ret (v := .tuple #[.agg #[.slice A3 n3 c3], .bool (decide (0 < R.length))]) (by simp [results, Tryd.results31, go_sem, p0]) rfl ⟨.agg #[.slice A3 n3 c3], by rw [HCB.out], ⟨.slice A3 n3 c3, rfl, by rw [HCL.out]; exact HO.out, by rw [HCL.out]; exact (normL_norm R).1⟩, HB.out⟩

set_option maxHeartbeats 4000000 in
theorem rcover_any (A : Option Addr) (n c : Nat) (l : List Sp) (w : World) (hn : l.length = n) (hm : n ≤ 50000) (hr : allR l = true) (hs : SpAt w w.heap.size A l) :
    Calls Tryd.prog 32 #[.slice A n c] w fun e w' => ∃ v, e = .returned (.tuple #[v, .bool (covB l)]) ∧ IsSp w' v (covL l) ∧ Below w.heap.size w w' := by
  have HS := Lib.hid hs
  clear hs
  have HL := Lib.hid hn
  clear hn
  have HR := Lib.hid hr
  clear hr
  go_enter Tryd.func32, Tryd.ntmps32
  go_wp2
  go_loopw [4, 10] (fun v i wr => ∃ (k : Nat) (acc : List Sp), k ≤ n ∧ i = .int .i64 k ∧ OwnS wr w.heap.size v acc ∧ acc.length ≤ k ∧ Hid (anyLast (l.take k) = false ∧ acc = (l.take k).map (askS 4611686018427387904)) ∧ Below w.heap.size w wr) (fun _ i _ => n - (intOf i).toNat)
  case atStart => exact ⟨0, [], Nat.zero_le _, rfl, World.ownsRow_nil _ _ _ _, by simp, ⟨rfl, by simp⟩, Below.refl _ _⟩
  case round =>
    obtain ⟨k, acc, hk, rfl, hown, hal, HG, hbel⟩ := hrel
    by_cases hlt : k < n
    · have hkl : k < l.length := by have := HL.out; omega
      obtain ⟨b, o, rfl, hbb, hc⟩ := (HS.out.below hbel (Nat.le_refl _)) (by omega)
      obtain ⟨c0, c1⟩ := hc k hkl
      clear hc
      have hsr := SR.of (List.all_eq_true.1 HR.out l[k] (List.getElem_mem hkl))
      have HT : Hid (∀ z, l[k].1 = z → z ≠ -1 → anyLast (l.take (k + 1)) = false ∧ acc ++ [askS 4611686018427387904 l[k]] = (l.take (k + 1)).map (askS 4611686018427387904)) := fun z h1 h2 => by
        refine ⟨?_, ?_⟩
        · rw [anyLast_take hkl, HG.out.1, h1]; simpa using h2
        · rw [List.take_succ_eq_append_getElem hkl, List.map_append, HG.out.2]; rfl
      have HX : Hid (∀ z, l[k].1 = z → z = -1 → anyLast l = true) := fun z h1 h2 => anyLast_at hkl (h1.trans h2)
      generalize l[k] = X at *
      obtain ⟨x, y⟩ := X
      simp only at c0 c1 hsr
      have hwz := hbel.size
      have hbz : b < wr.heap.size := by omega
      have e1 : Ext wr (wr.alloc (.cells #[.int .i64 x, .int .i64 y] 32)) := (Below.refl _ _).alloc (Nat.le_refl _) _
      by_cases hx : x = -1
      · subst hx
        have HF : Hid (anyLast l = true) := HX.out _ rfl rfl
        have B2 := Ext.tr hbel e1
        clear HT HG HX
        go_wp2
        exact bodyPost_ret (v := .tuple #[.slice none 0 0, .bool false]) (by simp [results, Tryd.results32, go_sem]) rfl ⟨.slice none 0 0, by simp [covB, HF.out], by rw [covL, if_pos HF.out]; exact IsSp.nil _, B2⟩
      · have hx1 : (x == -1) = false := by simpa using hx
        have HF := Lib.hid (HT.out x rfl hx)
        rw [ask_open hsr hx] at HF
        have hsr1 : -1 ≤ x ∧ x ≤ 999999999999999999 ∧ -1 ≤ y ∧ y ≤ 999999999999999999 := hsr
        clear HT HG HX hsr
        by_cases hy : y ≥ 0
        · rw [if_pos (show 0 ≤ y from hy)] at HF
          have own1 : OwnS ((wr.alloc (.cells #[.int .i64 x, .int .i64 y] 32)).alloc (.cells #[.int .i64 x, .int .i64 (y + 1)] 39)) w.heap.size _ acc := (hown.alloc _).alloc _
          have B1 : Below w.heap.size w ((wr.alloc (.cells #[.int .i64 x, .int .i64 y] 32)).alloc (.cells #[.int .i64 x, .int .i64 (y + 1)] 39)) := (hbel.alloc hwz _).alloc (by simp; omega) _
          go_wp2_with (at_builtin; refine app_span_at ((wr.alloc (.cells #[.int .i64 x, .int .i64 y] 32)).alloc (.cells #[.int .i64 x, .int .i64 (y + 1)] 39)) (wr.heap.size + 1 + 1) (by simp) (by rfl) _ _ (by rfl) w.heap.size _ acc x (y + 1) (by rfl) own1 (by rfl) (by omega) B1.size ?_; intro v3 w3 hown3 hgrow; have B3 : Below w.heap.size w w3 := below_app B1 B1.size own1 hgrow; clear hgrow own1 B1 hown)
          go_roundw
          case rel => exact ⟨k + 1, acc ++ [(x, y + 1)], by omega, by go_num, hown3, by simp; omega, HF, B3⟩
          case measure => simp [intOf]; omega
        · rw [if_neg (show ¬ 0 ≤ y from hy)] at HF
          have own1 : OwnS ((wr.alloc (.cells #[.int .i64 x, .int .i64 y] 32)).alloc (.cells #[.int .i64 x, .int .i64 4611686018427387904] 39)) w.heap.size _ acc := (hown.alloc _).alloc _
          have B1 : Below w.heap.size w ((wr.alloc (.cells #[.int .i64 x, .int .i64 y] 32)).alloc (.cells #[.int .i64 x, .int .i64 4611686018427387904] 39)) := (hbel.alloc hwz _).alloc (by simp; omega) _
          go_wp2_with (at_builtin; refine app_span_at ((wr.alloc (.cells #[.int .i64 x, .int .i64 y] 32)).alloc (.cells #[.int .i64 x, .int .i64 4611686018427387904] 39)) (wr.heap.size + 1 + 1) (by simp) (by rfl) _ _ (by rfl) w.heap.size _ acc x 4611686018427387904 (by rfl) own1 (by rfl) (by omega) B1.size ?_; intro v3 w3 hown3 hgrow; have B3 : Below w.heap.size w w3 := below_app B1 B1.size own1 hgrow; clear hgrow own1 B1 hown)
          go_roundw
          case rel => exact ⟨k + 1, acc ++ [(x, 4611686018427387904)], by omega, by go_num, hown3, by simp; omega, HF, B3⟩
          case measure => simp [intOf]; omega
    · obtain rfl : k = n := by omega
      have HF : Hid (anyLast l = false ∧ acc = resL 4611686018427387904 l) := by
        have := HG.out
        rw [List.take_of_length_le (by have := HL.out; omega)] at this
        refine ⟨this.1, ?_⟩
        rw [res_open HR.out this.1]; exact this.2
      clear HG
      have HCB : Hid (covB l = decide ((k : Int) > 0)) := by unfold Hid covB; rw [HF.out.1, HL.out]; simp
      have HCL : Hid (covL l = normL acc) := by unfold Hid covL; rw [if_neg (by rw [HF.out.1]; decide), HF.out.2]
      obtain ⟨A2, n2, c2, rfl, HN2, hc2, hs2⟩ := (IsSp.own hown).split
      have hof := rOf_set A2 n2 c2 acc wr HN2.out (by have := HN2.out; omega) hs2
      clear hs2 hown
      go_wp2_with (go_at_call 27; refine hof.mono ?_; rintro e w3 ⟨v3, rfl, hsp3, hb3⟩; have HO := Lib.hid hsp3; have B3 := Ext.tr hbel hb3; clear hsp3)
      exact bodyPost_ret (v := .tuple #[v3, .bool (decide ((k : Int) > 0))]) (by simp [results, Tryd.results32, go_sem]) rfl ⟨v3, by rw [HCB.out], by rw [HCL.out]; exact HO.out, B3⟩
end Go.Proofs.YtdmkfleiipfbgaaDoor
