/-
  Resolve: the spans of ranges that there are, of so many bytes: the program's and the reference's.
-/
import Derived.Test.YtdmkfleiipfbgaaDoorRG0
import Derived.Test.YtdmkfleiipfbgaaDoorPB
namespace Go.Proofs.YtdmkfleiipfbgaaDoor
open Go Go.RowKit

/-- append(v, X): one span, in a block of its own, behind a block that has just been made -/
theorem app_span_at (wr : World) (n : Nat) (hz : wr.heap.size = n) {ops : Array Oper} {rest : List Oper} {o : Oper} {a : Act} {Q : Exit → Act → World → Prop} (hgd : o.guard = none) (s x : Operand)
    (ho : o.op = .call { callee := .builtin .append, args := #[s, x], argTypes := #[35, 35] })
    (base : Nat) (v : Value) (l : List Sp) (p q : Int) (hs : a.eval s = v) (hown : OwnS wr base v l) (hx : a.eval x = .slice (some ⟨n, 0, none⟩) 1 1)
    (hlen : l.length ≤ 4000000) (hbase : base ≤ wr.heap.size)
    (h : ∀ v' w', OwnS w' base v' (l ++ [(p, q)]) → (wr.alloc (.cells #[.int .i64 p, .int .i64 q] 39)).grownBy w' v.ownBlock → wpList Tryd.prog ops Q rest (a.put o.dst v') w') :
    wpList Tryd.prog ops Q (o :: rest) a (wr.alloc (.cells #[.int .i64 p, .int .i64 q] 39)) := by
  subst hz; exact app_span wr hgd s x ho base v l p q hs hown hx hlen hbase h

def askS (t : Int) (x : Sp) : Sp := (askA x.1 x.2 t, askZ x.1 x.2 t)
/-- the spans of ranges -/
def resL (t : Int) (l : List Sp) : List Sp := solidL (l.map (askS t))
theorem resL_take {t : Int} {l : List Sp} {k : Nat} (h : k < l.length) :
    resL t (l.take (k + 1)) = if 0 < lenI (askA l[k].1 l[k].2 t) (askZ l[k].1 l[k].2 t) then resL t (l.take k) ++ [askS t l[k]] else resL t (l.take k) := by
  unfold resL
  rw [List.take_succ_eq_append_getElem h, List.map_append]
  unfold solidL
  rw [List.filter_append]
  by_cases hp : 0 < lenI (askA l[k].1 l[k].2 t) (askZ l[k].1 l[k].2 t)
  · rw [if_pos hp]; simp [askS, hp]
  · rw [if_neg hp]; simp [askS, hp]
theorem resL_len (t : Int) (l : List Sp) : (resL t l).length ≤ l.length := by
  have := solidL_len (l.map (askS t)); simpa [resL] using this
def SRL (l : List Sp) : Prop := ∀ x ∈ l, SR x.1 x.2
theorem SRL.of {l : List Sp} (h : allR l = true) : SRL l := fun x hx => SR.of (List.all_eq_true.1 h x hx)
theorem ask_bnd {a b t : Int} (hr : SR a b) (h0 : 0 ≤ t) : 0 ≤ askA a b t ∧ askZ a b t ≤ t ∧ 0 ≤ askZ a b t := by
  unfold SR at hr
  unfold askA askZ mxI mnI
  refine ⟨?_, ?_, ?_⟩ <;> split <;> (try split) <;> omega
theorem ask_pos {a b t : Int} (hr : SR a b) (h0 : 0 ≤ t) (h1 : t ≤ 4611686018427387904) : 0 < lenI (askA a b t) (askZ a b t) ↔ askA a b t < askZ a b t := by
  have := ask_bnd hr h0
  rw [len_solid (x := (askA a b t, askZ a b t))]
  unfold Solid; simp only; omega

def ResPost (t : Int) (l : List Sp) (w w' : World) (e : Ending) : Prop :=
  ∃ v, e = .returned (.tuple #[v, .bool (decide (0 < (resL t l).length))]) ∧ OwnS w' w.heap.size v (resL t l) ∧ Below w.heap.size w w'

set_option maxHeartbeats 4000000 in
theorem resolve_any (t : Int) (A : Option Addr) (n c : Nat) (l : List Sp) (w : World) (hn : l.length = n) (hm : n ≤ 1000000) (hr : SRL l) (h0 : 0 ≤ t) (h1 : t ≤ 4611686018427387904) (hs : SpAt w w.heap.size A l) :
    Calls Tryd.prog 20 #[.slice A n c, .int .i64 t] w fun e w' => ResPost t l w w' e := by
  have HS := Lib.hid hs
  clear hs
  have HL := Lib.hid hn
  clear hn
  have HR := Lib.hid hr
  clear hr
  go_enter Tryd.func20, Tryd.ntmps20
  go_wp2
  go_loopw [6, 12] (fun v i wr => ∃ (k : Nat) (acc : List Sp), k ≤ n ∧ i = .int .i64 k ∧ OwnS wr w.heap.size v acc ∧ acc.length ≤ k ∧ Hid (acc = resL t (l.take k)) ∧ Below w.heap.size w wr) (fun _ i _ => n - (intOf i).toNat)
  case atStart => exact ⟨0, [], Nat.zero_le _, rfl, World.ownsRow_nil _ _ _ _, by simp, rfl, Below.refl _ _⟩
  case round =>
    obtain ⟨k, acc, hk, rfl, hown, hal, HG, hbel⟩ := hrel
    by_cases hlt : k < n
    · have hkl : k < l.length := by have := HL.out; omega
      obtain ⟨b, o, rfl, hbb, hc⟩ := (HS.out.below hbel (Nat.le_refl _)) (by omega)
      obtain ⟨c0, c1⟩ := hc k hkl
      clear hc
      have HT := Lib.hid (resL_take (t := t) hkl)
      have hsr := HR.out l[k] (List.getElem_mem hkl)
      unfold askS at HT
      generalize l[k] = X at *
      obtain ⟨x, y⟩ := X
      simp only at HT c0 c1 hsr
      have hask := fun W => asked_any x y t W hsr h0 h1
      have hwz := hbel.size
      have hbz : b < wr.heap.size := by omega
      have e1 : Ext wr (wr.alloc (.cells #[.int .i64 x, .int .i64 y] 32)) := (Below.refl _ _).alloc (Nat.le_refl _) _
      generalize askA x y t = p at *
      generalize askZ x y t = q at *
      clear hsr
      by_cases hpos : 0 < lenI p q
      · have HF : Hid (acc ++ [(p, q)] = resL t (l.take (k + 1))) := by unfold Hid; rw [HT.out, if_pos hpos, HG.out]
        clear HT HG
        have hlen := fun W => len_any p q W
        have HP := Lib.hid hpos
        have hgt : decide (lenI p q > 0) = true := by simpa using hpos
        generalize lenI p q = L at *
        go_wp2_with (first
          | (go_at_call 47; with_reducible refine (hask _).mono ?_; rintro e w0 ⟨rfl, hb0⟩; have e2 := e1.tr hb0; have hz0 : wr.heap.size < w0.heap.size := (by have := hb0.size; simp only [World.size_alloc] at this; omega); have e3 : Ext wr (w0.alloc (.cells #[.int .i64 p, .int .i64 q] 39)) := e2.alloc e2.size _; clear hb0 e2 hask)
          | (go_at_call 48; with_reducible refine (hlen _).mono ?_; rintro e w1 ⟨rfl, hb1⟩; obtain ⟨hc1, hf1⟩ := bcell hb1; have hz1 : w0.heap.size < w1.heap.size := (by have := hb1.size; simp only [World.size_alloc] at this; omega); have e4 := e3.tr hb1; have own1 := Below.own hown e4; have B1 : Below w.heap.size w w1 := hbel.trans (e4.mono hwz); clear hb1 hlen e4 e3 hown hbel; have tok : True := trivial)
          | (at_builtin; have _t := tok; refine app_span w1 (by rfl) _ _ (by rfl) w.heap.size _ acc p q (by rfl) own1 (by rfl) (by omega) B1.size ?_; intro v3 w3 hown3 hgrow; have B3 : Below w.heap.size w w3 := below_app B1 B1.size own1 hgrow; clear hgrow own1 B1 tok))
        go_roundw
        case rel => exact ⟨k + 1, acc ++ [(p, q)], by omega, by go_num, hown3, by simp; omega, HF, B3⟩
        case measure => simp [intOf]; omega
      · have HF : Hid (acc = resL t (l.take (k + 1))) := by unfold Hid; rw [HT.out, if_neg hpos, HG.out]
        clear HT HG
        have hlen := fun W => len_any p q W
        have hgt : decide (lenI p q > 0) = false := by simpa using hpos
        have hng : lenI p q ≤ 0 := by omega
        generalize lenI p q = L at *
        go_wp2_with (first
          | (go_at_call 47; with_reducible refine (hask _).mono ?_; rintro e w0 ⟨rfl, hb0⟩; have e2 := e1.tr hb0; have hz0 : wr.heap.size < w0.heap.size := (by have := hb0.size; simp only [World.size_alloc] at this; omega); have e3 : Ext wr (w0.alloc (.cells #[.int .i64 p, .int .i64 q] 39)) := e2.alloc e2.size _; clear hb0 e2 hask)
          | (go_at_call 48; with_reducible refine (hlen _).mono ?_; rintro e w1 ⟨rfl, hb1⟩; have e4 := e3.tr hb1; have own1 := Below.own hown e4; have B1 : Below w.heap.size w w1 := hbel.trans (e4.mono hwz); clear hb1 hlen e4 e3 hown hbel))
        go_roundw
        case rel => exact ⟨k + 1, acc, by omega, by go_num, own1, by omega, HF, B1⟩
        case measure => simp [intOf]; omega
    · obtain rfl : k = n := by omega
      have HF : Hid (acc = resL t l) := by have := HG.out; rwa [List.take_of_length_le (by have := HL.out; omega)] at this
      clear HG
      obtain ⟨A2, n2, c2, rfl, HN2, hc2, -⟩ := (IsSp.own hown).split
      have HO := Lib.hid hown
      clear hown
      go_wp2
      exact bodyPost_ret (v := .tuple #[.slice A2 n2 c2, .bool (decide ((n2 : Int) > 0))]) (by simp [results, Tryd.results20, go_sem]) rfl ⟨.slice A2 n2 c2, by rw [← HF.out, HN2.out]; simp, by rw [← HF.out]; exact HO.out, hbel⟩

theorem rask_eq {a b t : Int} (hr : SR a b) : askA a b t = (if a = -1 then t - mnI b t else a) ∧ askZ a b t = (if a = -1 then t else if 0 ≤ b then mnI (b + 1) t else t) := by
  unfold SR at hr
  unfold askA askZ mxI mnI
  refine ⟨?_, ?_⟩
  · split
    · omega
    · rfl
  · split
    · rfl
    · by_cases h : b = -1
      · subst h; simp
      · rw [if_neg h, if_pos (by omega)]

set_option maxHeartbeats 4000000 in
theorem rresolve_any (t : Int) (A : Option Addr) (n c : Nat) (l : List Sp) (w : World) (hn : l.length = n) (hm : n ≤ 1000000) (hr : SRL l) (h0 : 0 ≤ t) (h1 : t ≤ 4611686018427387904) (hs : SpAt w w.heap.size A l) :
    Calls Tryd.prog 21 #[.slice A n c, .int .i64 t] w fun e w' => ResPost t l w w' e := by
  have HS := Lib.hid hs
  clear hs
  have HL := Lib.hid hn
  clear hn
  have HR := Lib.hid hr
  clear hr
  go_enter Tryd.func21, Tryd.ntmps21
  go_wp2
  go_loopw [6, 13] (fun v i wr => ∃ (k : Nat) (acc : List Sp), k ≤ n ∧ i = .int .i64 k ∧ OwnS wr w.heap.size v acc ∧ acc.length ≤ k ∧ Hid (acc = resL t (l.take k)) ∧ Below w.heap.size w wr) (fun _ i _ => n - (intOf i).toNat)
  case atStart => exact ⟨0, [], Nat.zero_le _, rfl, World.ownsRow_nil _ _ _ _, by simp, rfl, Below.refl _ _⟩
  case round =>
    obtain ⟨k, acc, hk, rfl, hown, hal, HG, hbel⟩ := hrel
    by_cases hlt : k < n
    · have hkl : k < l.length := by have := HL.out; omega
      obtain ⟨b, o, rfl, hbb, hc⟩ := (HS.out.below hbel (Nat.le_refl _)) (by omega)
      obtain ⟨c0, c1⟩ := hc k hkl
      clear hc
      have HT := Lib.hid (resL_take (t := t) hkl)
      have hsr := HR.out l[k] (List.getElem_mem hkl)
      unfold askS at HT
      generalize l[k] = X at *
      obtain ⟨x, y⟩ := X
      simp only at HT c0 c1 hsr
      have HQ := Lib.hid (rask_eq (t := t) hsr)
      have HP := Lib.hid (ask_pos hsr h0 h1)
      have HBN := Lib.hid (ask_bnd hsr h0)
      have hsr1 : -1 ≤ x ∧ x ≤ 999999999999999999 ∧ -1 ≤ y ∧ y ≤ 999999999999999999 := hsr
      clear hsr
      have hwz := hbel.size
      have hbz : b < wr.heap.size := by omega
      have e1 : Ext wr (wr.alloc (.cells #[.int .i64 x, .int .i64 y] 32)) := (Below.refl _ _).alloc (Nat.le_refl _) _
      by_cases hx : x = -1
      · subst hx
        have hm1 : mnI y t ≤ t ∧ -1 ≤ mnI y t := by unfold mnI; omega
        have hmn := fun W => least_any y t W
        rw [show askA (-1) y t = t - mnI y t from by have := HQ.out.1; simpa using this, show askZ (-1) y t = t from by have := HQ.out.2; simpa using this] at HT HP
        generalize mnI y t = m at *
        clear HQ HBN
        by_cases hpos : t - m < t
        · have HF : Hid (acc ++ [(t - m, t)] = resL t (l.take (k + 1))) := by unfold Hid; rw [HT.out, if_pos (HP.out.2 hpos), HG.out]
          clear HT HG HP
          go_wp2_with (first
            | (go_at_call 49; with_reducible refine (hmn _).mono ?_; rintro e w0 ⟨rfl, hb0⟩; have e2 := e1.tr hb0; have own1 := Below.own hown e2; have B1 : Below w.heap.size w w0 := hbel.trans (e2.mono hwz); clear hb0 e2 hmn hown hbel; have tok : True := trivial)
            | (at_builtin; have _t := tok; refine app_span w0 (by rfl) _ _ (by rfl) w.heap.size _ acc (t - m) t (by rfl) own1 (by rfl) (by omega) B1.size ?_; intro v3 w3 hown3 hgrow; have B3 : Below w.heap.size w w3 := below_app B1 B1.size own1 hgrow; clear hgrow own1 B1 tok))
          go_roundw
          case rel => exact ⟨k + 1, acc ++ [(t - m, t)], by omega, by go_num, hown3, by simp; omega, HF, B3⟩
          case measure => simp [intOf]; omega
        · have HF : Hid (acc = resL t (l.take (k + 1))) := by unfold Hid; rw [HT.out, if_neg (fun h => hpos (HP.out.1 h)), HG.out]
          clear HT HG HP
          go_wp2_with (go_at_call 49; with_reducible refine (hmn _).mono ?_; rintro e w0 ⟨rfl, hb0⟩; have e2 := e1.tr hb0; have own1 := Below.own hown e2; have B1 : Below w.heap.size w w0 := hbel.trans (e2.mono hwz); clear hb0 e2 hmn hown hbel)
          go_roundw
          case rel => exact ⟨k + 1, acc, by omega, by go_num, own1, by omega, HF, B1⟩
          case measure => simp [intOf]; omega
      · have hx1 : (x == -1) = false := by simpa using hx
        have HA : Hid (askA x y t = x) := by unfold Hid; rw [HQ.out.1, if_neg hx]
        by_cases hy : y ≥ 0
        · have HZ : Hid (askZ x y t = mnI (y + 1) t) := by unfold Hid; rw [HQ.out.2, if_neg hx, if_pos hy]
          rw [HA.out, HZ.out] at HT HP
          have hm1 : mnI (y + 1) t ≤ t ∧ 0 ≤ mnI (y + 1) t := by unfold mnI; omega
          have hmn := fun W => least_any (y + 1) t W
          generalize mnI (y + 1) t = m at *
          clear HQ HA HZ HBN
          by_cases hpos : x < m
          · have HF : Hid (acc ++ [(x, m)] = resL t (l.take (k + 1))) := by unfold Hid; rw [HT.out, if_pos (HP.out.2 hpos), HG.out]
            clear HT HG HP
            go_wp2_with (first
              | (go_at_call 49; with_reducible refine (hmn _).mono ?_; rintro e w0 ⟨rfl, hb0⟩; have e2 := e1.tr hb0; have own1 := Below.own hown e2; have B1 : Below w.heap.size w w0 := hbel.trans (e2.mono hwz); clear hb0 e2 hmn hown hbel; have tok : True := trivial)
              | (at_builtin; have _t := tok; refine app_span w0 (by rfl) _ _ (by rfl) w.heap.size _ acc x m (by rfl) own1 (by rfl) (by omega) B1.size ?_; intro v3 w3 hown3 hgrow; have B3 : Below w.heap.size w w3 := below_app B1 B1.size own1 hgrow; clear hgrow own1 B1 tok))
            go_roundw
            case rel => exact ⟨k + 1, acc ++ [(x, m)], by omega, by go_num, hown3, by simp; omega, HF, B3⟩
            case measure => simp [intOf]; omega
          · have HF : Hid (acc = resL t (l.take (k + 1))) := by unfold Hid; rw [HT.out, if_neg (fun h => hpos (HP.out.1 h)), HG.out]
            clear HT HG HP
            go_wp2_with (go_at_call 49; with_reducible refine (hmn _).mono ?_; rintro e w0 ⟨rfl, hb0⟩; have e2 := e1.tr hb0; have own1 := Below.own hown e2; have B1 : Below w.heap.size w w0 := hbel.trans (e2.mono hwz); clear hb0 e2 hmn hown hbel)
            go_roundw
            case rel => exact ⟨k + 1, acc, by omega, by go_num, own1, by omega, HF, B1⟩
            case measure => simp [intOf]; omega
        · have HZ : Hid (askZ x y t = t) := by unfold Hid; rw [HQ.out.2, if_neg hx, if_neg (by omega)]
          rw [HA.out, HZ.out] at HT HP
          clear HQ HA HZ HBN
          have own1 := Below.own hown e1
          have B1 := hbel.trans (e1.mono hwz)
          by_cases hpos : x < t
          · have HF : Hid (acc ++ [(x, t)] = resL t (l.take (k + 1))) := by unfold Hid; rw [HT.out, if_pos (HP.out.2 hpos), HG.out]
            clear HT HG HP hown hbel
            go_wp2_with (at_builtin; refine app_span_at (wr.alloc (.cells #[.int .i64 x, .int .i64 y] 32)) (wr.heap.size + 1) (by simp) (by rfl) _ _ (by rfl) w.heap.size _ acc x t (by rfl) own1 (by rfl) (by omega) B1.size ?_; intro v3 w3 hown3 hgrow; have B3 : Below w.heap.size w w3 := below_app B1 B1.size own1 hgrow; clear hgrow own1 B1)
            go_roundw
            case rel => exact ⟨k + 1, acc ++ [(x, t)], by omega, by go_num, hown3, by simp; omega, HF, B3⟩
            case measure => simp [intOf]; omega
          · have HF : Hid (acc = resL t (l.take (k + 1))) := by unfold Hid; rw [HT.out, if_neg (fun h => hpos (HP.out.1 h)), HG.out]
            clear HT HG HP hown hbel
            go_wp2
            go_roundw
            case rel => exact ⟨k + 1, acc, by omega, by go_num, own1, by omega, HF, B1⟩
            case measure => simp [intOf]; omega
    · obtain rfl : k = n := by omega
      have HF : Hid (acc = resL t l) := by have := HG.out; rwa [List.take_of_length_le (by have := HL.out; omega)] at this
      clear HG
      obtain ⟨A2, n2, c2, rfl, HN2, hc2, -⟩ := (IsSp.own hown).split
      have HO := Lib.hid hown
      clear hown
      go_wp2
      exact bodyPost_ret (v := .tuple #[.slice A2 n2 c2, .bool (decide ((n2 : Int) > 0))]) (by simp [results, Tryd.results21, go_sem]) rfl ⟨.slice A2 n2 c2, by rw [← HF.out, HN2.out]; simp, by rw [← HF.out]; exact HO.out, hbel⟩
end Go.Proofs.YtdmkfleiipfbgaaDoor
