/-
  ranges.Of: the set of all that spans have: the nonempty ones, sorted, neighbours made one.
-/
import Derived.Test.YthbjhpfgfpkppaaDoorRG0
import Derived.Test.YthbjhpfgfpkppaaDoorShelf
import Derived.Sort.OwnSortedInts
namespace Go.Proofs.YthbjhpfgfpkppaaDoor.Rg
open Go Go.RowKit
open Go.Shelf (Ren)
open Go.Sort (SWO PermIn SortedIn HoldsK flatK grow putRow get_flatK size_flatK heap_grow_old)

def encSp (x : Sp) : List Value := [.int .i64 x.1, .int .i64 x.2]
abbrev cmpSp (x y : Sp) : Int := Lib.compareInt x.1 y.1
theorem ltSp (x y : Sp) : ltOf cmpSp x y = decide (x.1 < y.1) := by
  unfold ltOf cmpSp Lib.compareInt
  by_cases h1 : x.1 < y.1
  · simp [h1]
  · by_cases h2 : y.1 < x.1 <;> simp [h1, h2]
theorem swoSp : SWO (ltOf cmpSp) where
  irrefl x := by rw [ltSp]; simp
  trans x y z h1 h2 := by rw [ltSp] at *; simp at *; omega
  ntrans x y z h1 h2 := by rw [ltSp] at *; simp at *; omega
set_option maxHeartbeats 1000000 in
theorem cmp_clo (x y : Sp) (W : World) : Calls Tryd.prog 19 #[.agg #[.int .i64 x.1, .int .i64 x.2], .agg #[.int .i64 y.1, .int .i64 y.2]] W fun e w' => e = .returned (.int .i64 (cmpSp x y)) ∧ ∃ q os', w' = grow (W.drewN q) os' := by
  have hcon := fun W' => Tryd.cmp_Compare_int x.1 y.1 W'
  unfold cmpSp
  generalize Lib.compareInt x.1 y.1 = r at hcon ⊢
  go_enter Tryd.func19, Tryd.ntmps19
  go_wp2_with (go_at_call 20; refine (hcon _).mono ?_; rintro e w' ⟨rfl, rfl⟩)
  go_ret
  exact ⟨rfl, 0, _, by rw [Go.Sort.alloc_eq_grow, Go.Sort.alloc_eq_grow, Go.Sort.grow_grow]; rfl⟩
theorem cmp_lays (blk off size : Nat) (w : World) : CmpLays Tryd.prog 19 #[] encSp 2 cmpSp blk off size w := fun _ _ _ _ x y => cmp_clo x y _

theorem flatK_get (d : Array Sp) (t : Nat) (ht : t < d.size * 2) : (flatK encSp 2 d)[t]! = (flat d.toList)[t]! := by
  rw [get_flatK _ _ _ _ ht]
  have hl : t / 2 < d.toList.length := by simp; omega
  have e : d[t / 2]! = d.toList[t / 2] := by rw [getElem!_pos d (t / 2) (by omega)]; simp
  rcases Nat.mod_two_eq_zero_or_one t with h | h
  · have h1 := flat_get0 d.toList (t / 2) hl
    rw [show t / 2 * 2 = t by omega] at h1
    rw [h, e, List.getElem!_eq_getElem?_getD (l := flat d.toList), h1]; rfl
  · have h1 := flat_get1 d.toList (t / 2) hl
    rw [show t / 2 * 2 + 1 = t by omega] at h1
    rw [h, e, List.getElem!_eq_getElem?_getD (l := flat d.toList), h1]; rfl
theorem sorted_below {w : World} {g n B : Nat} {os : Array Obj} (d : Array Sp) (hg : B ≤ g) (hB : B ≤ w.heap.size) : Below B w (sortWorldK encSp 2 w g 0 n d os) := by
  refine ⟨rfl, rfl, rfl, by simp [sortWorldK, Go.Sort.putRowK], fun k hk => ?_⟩
  unfold sortWorldK Go.Sort.putRowK
  rw [heap_grow_old _ _ (by simp; omega)]
  have : g ≠ k := by omega
  simp [putRow, Go.Sort.mapBlock, Go.Sort.ahead, Array.getElem?_modify, this]

/-- what the sort leaves of a list of the call's own -/
def SortPost (base : Nat) (v : Value) (l : List Sp) (w w' : World) (e : Ending) : Prop :=
  e = .returned (.tuple #[]) ∧ ∃ l', l'.Perm l ∧ (l'.Pairwise fun x y => x.1 ≤ y.1) ∧ IsSp w' v l' ∧ Below base w w'

theorem sort_any (base : Nat) (v : Value) (l : List Sp) (w : World) (hl : l.length ≤ 4000000) (hb : base ≤ w.heap.size) (hown : OwnS w base v l) :
    Calls Tryd.prog 18 #[v, .func (.func 19) #[] #[]] w fun e w' => SortPost base v l w w' e := by
  rcases Nat.eq_zero_or_pos l.length with h0 | h0
  · have hn : l = [] := List.eq_nil_of_length_eq_zero h0
    subst hn
    obtain ⟨A, c, rfl, hc, hs⟩ := IsSp.own hown
    exact (AnyF.slices_SortFunc_none Tryd.sortSp A c _ w).mono fun e w' ⟨he, hw⟩ => by
      subst hw
      exact ⟨he, [], List.Perm.refl _, List.Pairwise.nil, ⟨A, c, rfl, hc, hs⟩, Below.refl _ _⟩
  · obtain ⟨g, cap, rfl, hgb, hgl⟩ := World.ownsRow.form hown h0
    have eg : ∀ args w, (callFunc 19 args).run Tryd.prog w = .ok (.enter 19 args) w := enters_of Tryd.func19 (by kernel_rfl) rfl
    have hH : HoldsK encSp 2 w g 0 l.toArray := fun j hj => by
      have hj' : j < l.length * 2 := by simpa using hj
      refine ⟨?_, by rw [Nat.zero_add]; exact World.ownsRow.frozenAt hown j⟩
      rw [Nat.zero_add, World.ownsRow.cellAt hown j hj', flatK_get _ _ (by simpa using hj')]
      show (flat l)[j]? = some (flat l)[j]!
      rw [List.getElem!_eq_getElem?_getD, List.getElem?_eq_getElem (by rw [flat_len]; exact hj')]; rfl
    have hcap : l.length ≤ cap := by
      obtain ⟨A, c, e, hc, _⟩ := IsSp.own hown
      injection e with _ _ e; omega
    have hcon := AnyQ.slices_SortFunc Tryd.sortSp 2 Tryd.isAgg31 Tryd.sizeOf31 encSp (fun _ => rfl) (fun x v hv => by simp [encSp] at hv; rcases hv with rfl | rfl <;> rfl) cmpSp swoSp 19 #[] g 0 cap l.toArray w eg (cmp_lays g 0 _ w) hH hgl (by simp; omega)
    change Calls Tryd.prog 18 _ _ _ at hcon
    refine hcon.mono fun e w' ⟨he, d', n, os, hp, hs, hw⟩ => ?_
    subst hw
    obtain ⟨p1, _, p3⟩ := hp
    have hsz : d'.size = l.length := by simpa using p1
    have hperm : d'.toList.Perm l := by
      have : d'.extract 0 l.toArray.size = d' := by rw [← p1]; exact Array.extract_size
      rw [this] at p3
      simpa using p3
    have hH' := holdsK_sortWorldK_c encSp 2 w g 0 l.toArray d' n os hH hgl p1
    refine ⟨he, d'.toList, hperm, ?_, ⟨_, cap, by simp [hsz], by simpa [hsz] using hcap, fun _ => ⟨g, 0, rfl, Nat.lt_of_lt_of_le hgl (size_sortWorldK_c encSp 2 w g 0 n d' os), fun j hj => ?_⟩⟩, sorted_below d' hgb hb⟩
    · refine List.pairwise_iff_getElem.2 fun i j hi hj hij => ?_
      have h := hs i j (Nat.zero_le _) hij (by simpa [hsz] using hj)
      rw [ltSp] at h
      have e1 : d'[i]! = d'.toList[i] := by rw [getElem!_pos d' i (by simpa using hi)]; simp
      have e2 : d'[j]! = d'.toList[j] := by rw [getElem!_pos d' j (by simpa using hj)]; simp
      rw [e1, e2] at h
      simpa using h
    · have hj' : j < d'.size := by simpa using hj
      have a := (hH' (j * 2) (by simp; omega)).1
      have b := (hH' (j * 2 + 1) (by simp; omega)).1
      rw [flatK_get _ _ (by omega), List.getElem!_eq_getElem?_getD, flat_get0 d'.toList j hj] at a
      rw [flatK_get _ _ (by omega), List.getElem!_eq_getElem?_getD, flat_get1 d'.toList j hj] at b
      exact ⟨a, by rw [← Nat.add_assoc] at b; exact b⟩

/-- what Of leaves -/
def SetPost (n : Nat) (P : Int → Prop) (w w' : World) (e : Ending) : Prop :=
  ∃ v out, e = .returned (.agg #[v]) ∧ IsSp w' v out ∧ Canon out ∧ (∀ p, InL out p ↔ P p) ∧ out.length ≤ n ∧ Below w.heap.size w w'
theorem of_ok {l l' : List Sp} (hp : l'.Perm (solidL l)) (hs : l'.Pairwise fun x y => x.1 ≤ y.1) : Canon (closeL 0 l') ∧ (∀ p, InL (closeL 0 l') p ↔ InL l p) ∧ (closeL 0 l').length ≤ l.length ∧ Bnd l' ∧ l'.length ≤ l.length := by
  have hsol : ∀ x ∈ l', Solid x := fun x hx => (solidL_mem (hp.subset hx)).2
  obtain ⟨h1, h2⟩ := closeL_canon hsol hs
  have h3 := closeL_len 0 l'
  have h4 := hp.length_eq
  have h5 := solidL_len l
  refine ⟨h1, fun p => ?_, by omega, fun x hx => by have := hsol x hx; unfold Solid at this; omega, by omega⟩
  rw [h2 p, ← solidL_in (l := l)]
  exact ⟨fun ⟨x, hx, k⟩ => ⟨x, hp.subset hx, k⟩, fun ⟨x, hx, k⟩ => ⟨x, hp.symm.subset hx, k⟩⟩

theorem closed_n {l : List Sp} {n : Nat} (hn : l.length = n) (g : Int) (A : Option Addr) (c : Nat) (w : World) (hm : l.length ≤ 1000000) (hb : Bnd l) (hs : SpAt w w.heap.size A l) :
    Calls Tryd.prog 21 #[.slice A n c, .int .i64 g] w fun e w' => ∃ v, e = .returned v ∧ OwnS w' w.heap.size v (closeL g l) ∧ Below w.heap.size w w' := by
  subst hn; exact closed_any g A c l w hm hb hs

set_option maxHeartbeats 8000000 in
set_option maxRecDepth 100000 in
theorem Of_any (A : Option Addr) (c : Nat) (l : List Sp) (w : World) (hm : l.length ≤ 1000000) (hs : SpAt w w.heap.size A l) :
    Calls Tryd.prog 6 #[.slice A l.length c] w fun e w' => SetPost l.length (InL l) w w' e := by
  have HS := Lib.hid hs
  clear hs
  obtain ⟨n, HL⟩ : ∃ n, Hid (l.length = n) := ⟨_, rfl⟩
  have hn : n ≤ 1000000 := by have := HL.out; omega
  rw [show l.length = n from HL.out]
  clear hm
  go_enter Tryd.func6, Tryd.ntmps6
  go_wp2
  go_loopw [3, 8] (fun v i wr => ∃ (k : Nat) (acc : List Sp), k ≤ n ∧ i = .int .i64 k ∧ OwnS wr (w.heap.size + 1) v acc ∧ acc.length ≤ k ∧ Hid (acc = solidL (l.take k)) ∧ Below (w.heap.size + 1) (w.alloc (.cells #[.slice none 0 0] 28)) wr) (fun _ i _ => n - (intOf i).toNat)
  case atStart => exact ⟨0, [], Nat.zero_le _, rfl, World.ownsRow_nil _ _ _ _, by simp, rfl, Below.refl _ _⟩
  case round =>
    obtain ⟨k, acc, hk, rfl, hown, hal, HG, hbel⟩ := hrel
    have hwz : w.heap.size + 1 ≤ wr.heap.size := by have := hbel.size; simpa using this
    have B0 : Below w.heap.size w wr := Below.trans ((Below.refl _ _).alloc (Nat.le_refl _) _) (hbel.mono (Nat.le_succ _))
    by_cases hlt : k < n
    · have hkl : k < l.length := by have := HL.out; omega
      obtain ⟨b, o, rfl, hbb, hc⟩ := (HS.out.below B0 (Nat.le_refl _)) (by omega)
      obtain ⟨c0, c1⟩ := hc k hkl
      clear hc B0
      have HT := Lib.hid (solidL_take hkl)
      generalize l[k] = X at *
      obtain ⟨x, y⟩ := X
      simp only at HT c0 c1
      have hbz : b < wr.heap.size := by omega
      have e1 : Ext wr (wr.alloc (.cells #[.int .i64 x, .int .i64 y] 31)) := (Below.refl _ _).alloc (Nat.le_refl _) _
      by_cases hpos : 0 < lenI x y
      · have HF : Hid (acc ++ [(x, y)] = solidL (l.take (k + 1))) := by unfold Hid; rw [HT.out, if_pos hpos, HG.out]
        clear HT HG
        have hlen := fun W => len_any x y W
        have HP := Lib.hid hpos
        have hgt : decide (lenI x y > 0) = true := by simpa using hpos
        generalize lenI x y = L at *
        go_wp2_with (first
          | (go_at_call 17; with_reducible refine (hlen _).mono ?_; rintro e w1 ⟨rfl, hb1⟩; obtain ⟨hc1, hf1⟩ := bcell hb1; have hz1 : wr.heap.size < w1.heap.size := (by have := hb1.size; simp only [World.size_alloc] at this; omega); have e2 := e1.tr hb1; have own1 := Below.own hown e2; have B1 : Below (w.heap.size + 1) (w.alloc (.cells #[.slice none 0 0] 28)) w1 := hbel.trans (e2.mono hwz); clear hb1 hlen e2 hown hbel; have tok : True := trivial)
          | (at_builtin; have _t := tok; refine app_span w1 (by rfl) _ _ (by rfl) (w.heap.size + 1) _ acc x y (by rfl) own1 (by rfl) (by omega) (by omega) ?_; intro v3 w3 hown3 hgrow; have B3 : Below (w.heap.size + 1) (w.alloc (.cells #[.slice none 0 0] 28)) w3 := below_app B1 (by omega) own1 hgrow; clear hgrow own1 B1 tok))
        go_roundw
        case rel => exact ⟨k + 1, acc ++ [(x, y)], by omega, by go_num, hown3, by simp; omega, HF, B3⟩
        case measure => simp [intOf]; omega
      · have HF : Hid (acc = solidL (l.take (k + 1))) := by unfold Hid; rw [HT.out, if_neg hpos, HG.out]
        clear HT HG
        have hlen := fun W => len_any x y W
        have hgt : decide (lenI x y > 0) = false := by simpa using hpos
        have hng : lenI x y ≤ 0 := by omega
        generalize lenI x y = L at *
        go_wp2_with (go_at_call 17; with_reducible refine (hlen _).mono ?_; rintro e w1 ⟨rfl, hb1⟩; have e2 := e1.tr hb1; have own1 := Below.own hown e2; have B1 : Below (w.heap.size + 1) (w.alloc (.cells #[.slice none 0 0] 28)) w1 := hbel.trans (e2.mono hwz); clear hb1 hlen e2 hown hbel)
        go_roundw
        case rel => exact ⟨k + 1, acc, by omega, by go_num, own1, by omega, HF, B1⟩
        case measure => simp [intOf]; omega
    · obtain rfl : k = n := by omega
      have HF : Hid (acc = solidL l) := by have := HG.out; rwa [List.take_of_length_le (by have := HL.out; omega)] at this
      clear HG
      go_wp2_with (first
        | (go_at_call 18; refine (sort_any (w.heap.size + 1) _ acc _ (by omega) hwz hown).mono ?_; rintro e w1 ⟨rfl, l', hp, hs, hsp, B1⟩; obtain ⟨A2, n2, c2, rfl, HN2, hc2, hs2⟩ := hsp.split; have HP := Lib.hid hp; have HSo := Lib.hid hs; have HS2 := Lib.hid hs2; clear hp hs hs2 hown)
        | (go_at_call 21; have hok := of_ok (by rw [← HF.out]; exact HP.out) HSo.out; have HOK := Lib.hid hok; have hl6 : l'.length ≤ 1000000 := (by have := hok.2.2.2.2; have := HL.out; omega); refine (closed_n HN2.out 0 A2 c2 _ hl6 hok.2.2.2.1 HS2.out).mono ?_; rintro e w2 ⟨v2, rfl, hown2, hb2⟩; have Bt : Below (w.heap.size + 1) (w.alloc (.cells #[.slice none 0 0] 28)) w2 := (hbel.trans B1).trans (hb2.mono (Nat.le_trans hwz B1.size)); have cz : w2.cell? ⟨w.heap.size, 0, none⟩ = some (.slice none 0 0) := (by rw [Bt.cell (p := ⟨w.heap.size, 0, none⟩) (Nat.lt_succ_self _)]; simp); have fz : w2.frozen? ⟨w.heap.size, 0, none⟩ = false := (by rw [Bt.frozen (p := ⟨w.heap.size, 0, none⟩) (Nat.lt_succ_self _)]; simp); have hw1z := Nat.le_trans hwz B1.size; obtain ⟨A3, n3, c3, rfl, HN3, hc3, -⟩ := (IsSp.own hown2).split; clear hok hbel B1 hb2))
      have B4 : Below w.heap.size w w2 := Below.trans ((Below.refl _ _).alloc (Nat.le_refl _) _) (Bt.mono (Nat.le_succ _))
      have hsp2 := IsSp.own (ownsRow_setCell_below hown2 (a := ⟨w.heap.size, 0, none⟩) hw1z (.slice A3 n3 c3))
      exact bodyPost_ret (v := .agg #[.slice A3 n3 c3]) (by simp [results, Tryd.results6, go_sem, cz]) rfl ⟨.slice A3 n3 c3, _, rfl, hsp2, HOK.out.1, HOK.out.2.1, by have := HOK.out.2.2.1; have := HL.out; omega, B4.setCell (Nat.le_refl _) _⟩
end Go.Proofs.YthbjhpfgfpkppaaDoor.Rg
