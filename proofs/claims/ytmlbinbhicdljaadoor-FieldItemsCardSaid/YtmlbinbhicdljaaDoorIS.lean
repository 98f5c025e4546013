/-
  The reference's items of values.
-/
import Derived.Test.YtmlbinbhicdljaaDoorIR
namespace Go.Proofs.YtmlbinbhicdljaaDoor
open Go Go.RowKit

theorem filter_take {l : List ByteArray} {j : Nat} (h : j < l.length) : (l.take (j + 1)).filter keepB = (l.take j).filter keepB ++ (if keepB l[j] = true then [l[j]] else []) := by
  rw [List.take_succ_eq_append_getElem h, List.filter_append]
  congr 1
  by_cases e : keepB l[j] = true
  · rw [if_pos e]; simp [e]
  · rw [if_neg e]; simp [e]

/-- where the row of an append lies: where it lay, or in the newest block -/
theorem app_where (W : World) (base : Nat) (v : Value) (l : List ByteArray) (p : ByteArray) (ty : TypeId) (hown : OwnX W base v l) (a : Addr) (hc : W.cell? a = some (.string p)) (hspot : a.spot = none) (hlen : l.length ≤ 4000000) {v' : Value} {w' : World}
    (r2 : (Builtin.append_ #[29, 29] ty #[v, .slice (some a) 1 1]).run Tryd.prog W = .ok v' w') : v'.ownBlock = v.ownBlock ∨ v'.ownBlock = some W.heap.size := by
  obtain ⟨i0, hi, hz0, hz1, hz2⟩ := info_parts infoStr
  have hnews : ∀ j u, ([.string p] : List Value)[j]? = some u → W.cell? (a.add j) = some u := by
    intro j u hj
    cases j with
    | zero => simp at hj; subst hj; obtain ⟨b, o, q⟩ := a; simp only at hspot; subst hspot; simpa [Addr.add] using hc
    | succ j => simp at hj
  rcases hown.2 with ⟨rfl, h0⟩ | ⟨g, cap, cur, rfl, hbg, hg, hnc, hcm, hcs, htake⟩
  · have r1 := run_append_nil (P := Tryd.prog) W 29 ty 9 i0 (.string ⟨#[]⟩) Tryd.underlying29 hi hz0 a 1 1 [.string p] (by rw [hz1]; rfl) hnews (by omega) (by omega) (by rw [hz2]; simp)
    rw [r1] at r2
    injection r2 with e1 e2
    right; rw [← e1]; rfl
  · by_cases hroom : l.length + 1 ≤ cap
    · have r1 := run_append_room (P := Tryd.prog) W 29 ty 9 i0 Tryd.underlying29 hi g l.length cap cur hg a 1 1 [.string p] (by rw [hz1]; rfl) hnews (by simp [Value.oneCell']) hroom (by rw [hz1, hcs]; simp; omega)
      rw [r1] at r2
      injection r2 with e1 e2
      left; rw [← e1]; rfl
    · have holds : ∀ j u, (flatX l)[j]? = some u → W.cell? ((⟨g, 0, none⟩ : Addr).add j) = some u := World.ownsRow.cells hown (g := g) rfl
      have r1 := run_append_grow (P := Tryd.prog) W 29 ty 9 i0 (.string ⟨#[]⟩) Tryd.underlying29 hi hz0 ⟨g, 0, none⟩ l.length cap (flatX l) (by rw [hz1]; exact hown.1) holds a 1 1 [.string p] (by rw [hz1]; rfl) hnews (by omega) (by omega) (growslice_fits (by omega) (by rw [hz2]; omega))
      rw [r1] at r2
      injection r2 with e1 e2
      right; rw [← e1]; rfl
/-- append(v, X): as app_tx_at, and where the new row lies -/
theorem app_tx_where (wr : World) {ops : Array Oper} {rest : List Oper} {o : Oper} {a : Act} {Q : Exit → Act → World → Prop} (hgd : o.guard = none) (s x : Operand)
    (ho : o.op = .call { callee := .builtin .append, args := #[s, x], argTypes := #[29, 29] })
    (base : Nat) (v : Value) (l : List ByteArray) (p : ByteArray) (hs : a.eval s = v) (hown : OwnX wr base v l) (hx : a.eval x = .slice (some ⟨wr.heap.size, 0, none⟩) 1 1)
    (hlen : l.length ≤ 4000000) (hbase : base ≤ wr.heap.size)
    (h : ∀ v' w', OwnX w' base v' (l ++ [p]) → (wr.alloc (.cells #[.string p] 9)).grownBy w' v.ownBlock → (v'.ownBlock = v.ownBlock ∨ v'.ownBlock = some (wr.heap.size + 1)) → wpList Tryd.prog ops Q rest (a.put o.dst v') w') :
    wpList Tryd.prog ops Q (o :: rest) a (wr.alloc (.cells #[.string p] 9)) := by
  obtain ⟨i0, hi, hz0, hz1, hz2⟩ := info_parts infoStr
  have hc : (wr.alloc (.cells #[.string p] 9)).cell? ⟨wr.heap.size, 0, none⟩ = some (.string p) := by simp
  have hnews : ∀ j u, ([.string p] : List Value)[j]? = some u → (wr.alloc (.cells #[.string p] 9)).cell? ((⟨wr.heap.size, 0, none⟩ : Addr).add j) = some u := by
    intro j u hj
    cases j with
    | zero => simp at hj; subst hj; simp [Addr.add]
    | succ j => simp at hj
  have hown1 : OwnX (wr.alloc (.cells #[.string p] 9)) base v l := hown.alloc _
  obtain ⟨v', w', hrun, h1, h2, _⟩ := run_append_own (P := Tryd.prog) (wr.alloc (.cells #[.string p] 9)) base 29 o.type 9 i0 (.string ⟨#[]⟩) 1 16 Tryd.underlying29 hi hz0 hz1 hz2 rfl (by omega) v l.length (flatX l) hown1 ⟨wr.heap.size, 0, none⟩ 1 1 [.string p] (by simp) hnews (by simp [Value.oneCell']) (by unfold maxLen; omega) (by omega) (by simp; omega)
  have hw := app_where _ base v l p o.type hown1 ⟨wr.heap.size, 0, none⟩ hc rfl hlen hrun
  rw [World.size_alloc] at hw
  refine wpList_plain hgd fun K hK => ?_
  unfold Oper.wp
  simp [execOp, ho, resolve, invoke, builtin, hs, hx, hrun, Result.andThen]
  exact hK _ _ (h v' w' (by unfold OwnX; rw [flatX_append, List.length_append]; exact h1) h2 hw)

/-- a row that lies apart from the blocks of a stretch, which are as they were -/
structure Sep (B0 B1 : Nat) (w1 W : World) (v : Value) : Prop where
  fr : ∀ i, B0 ≤ i → i < B1 → W.heap[i]? = w1.heap[i]?
  ob : ∀ g, v.ownBlock = some g → g < B0 ∨ B1 ≤ g
  sz : B1 ≤ W.heap.size
theorem Sep.app {B0 B1 : Nat} {w1 W W' : World} {v v' : Value} {o : Obj} (h : Sep B0 B1 w1 W v) (hg : (W.alloc o).grownBy W' v.ownBlock) (hw : v'.ownBlock = v.ownBlock ∨ v'.ownBlock = some (W.heap.size + 1)) : Sep B0 B1 w1 W' v' := by
  have hs := h.sz
  have hz := hg.size
  rw [World.size_alloc] at hz
  refine ⟨fun i h0 h1 => ?_, fun g e => ?_, by omega⟩
  · rw [hg.block i (by rw [World.size_alloc]; omega) (fun e => by have := h.ob i e.symm; omega), heap_alloc_old W o (by omega)]
    exact h.fr i h0 h1
  · rcases hw with e1 | e1
    · exact h.ob g (by rw [← e1]; exact e)
    · rw [e1] at e; injection e with e; omega
theorem Sep.txt {B0 B1 : Nat} {w1 W : World} {v : Value} {A : Option Addr} {l : List ByteArray} (h : Sep B0 B1 w1 W v) (hrow : 0 < l.length → ∃ g, A = some ⟨g, 0, none⟩ ∧ B0 ≤ g ∧ g < B1 ∧ ∀ j (h : j < l.length), w1.cell? ⟨g, 0 + j, none⟩ = some (.string l[j])) : TxAt W W.heap.size A l := fun h0 => by
  obtain ⟨g, rfl, h1, h2, hc⟩ := hrow h0
  refine ⟨g, 0, rfl, Nat.lt_of_lt_of_le h2 h.sz, fun j hj => ?_⟩
  rw [World.cell?_of_block (h.fr g h1 h2)]
  exact hc j hj

set_option maxHeartbeats 8000000 in
set_option maxRecDepth 20000 in
theorem rItems_any (A : Option Addr) (n c : Nat) (l : List ByteArray) (w : World) (hn : l.length = n) (hm : n ≤ 60) (hg : xsum l ≤ 10000) (hs : TxAt w w.heap.size A l) :
    Calls Tryd.prog 24 #[.slice A n c] w fun e w' => ∃ v, e = .returned v ∧ OwnX w' w.heap.size v (itemsD l) ∧ Below w.heap.size w w' := by
  have HS := Lib.hid hs
  have HL := Lib.hid hn
  have HG := Lib.hid hg
  clear hs hn hg
  go_enter Tryd.func24, Tryd.ntmps24
  go_wp2
  go_loopw [3, 10] (fun vl i wr => ∃ k : Nat, k ≤ n ∧ i = .int .i64 k ∧ OwnX wr w.heap.size vl (itemsD (l.take k)) ∧ Below w.heap.size w wr) (fun _ i _ => n - (intOf i).toNat)
  case atStart => exact ⟨0, Nat.zero_le _, rfl, by rw [List.take_zero]; exact World.ownsRow_nil _ _ _ _, Below.refl _ _⟩
  case round =>
    obtain ⟨k, hk, rfl, hown, hbel⟩ := hrel
    by_cases hlt : k < n
    · have hkl : k < l.length := by have := HL.out; omega
      obtain ⟨b, o, rfl, hb, hc⟩ := (HS.out.below hbel (Nat.le_refl _)) (by omega)
      have c0 := hc k hkl
      clear hc
      have HT := Lib.hid (itemsD_take hkl)
      have hxz : l[k].size ≤ 10000 := by have := xsum_at (List.getElem_mem hkl); have := HG.out; omega
      have hD1 : (itemsD (l.take k)).length ≤ 10060 := by
        have h1 := itemsD_len (l.take k)
        have h2 := xsum_le (l := l) k
        have := HG.out
        rw [List.length_take] at h1; omega
      generalize l[k] = x at *
      have hbz : b < wr.heap.size := by have := hbel.size; omega
      have hwz := hbel.size
      have hP := fun W => ritems_any x W hxz
      have hPl : ((partsI false false x.data.toList).map trimT).length ≤ 10001 := by
        rw [List.length_map]; have := partsI_len false false x.data.toList; rw [← Lib.size_eq] at this; omega
      have HT2 : Hid (itemsD (l.take (k + 1)) = itemsD (l.take k) ++ ((partsI false false x.data.toList).map trimT).filter keepB) := by
        unfold Hid; rw [HT.out, keep_filter]; rfl
      clear HT
      obtain ⟨P, hPe⟩ : ∃ P, Hid ((partsI false false x.data.toList).map trimT = P) := ⟨_, rfl⟩
      rw [hPe.out] at HT2 hPl
      have hP2 : ∀ W, Calls Tryd.prog 39 #[.string x] W fun e w' => ∃ v, e = .returned v ∧ OwnX w' W.heap.size v P ∧ Below W.heap.size W w' := fun W => by rw [← hPe.out]; exact hP W
      clear hP
      obtain ⟨acc, hac⟩ : ∃ acc, Hid (itemsD (l.take k) = acc) := ⟨_, rfl⟩
      rw [hac.out] at hown hD1 HT2
      clear hPe hac
      go_wp2_with fail
      with_reducible refine (hP2 _).mono ?_
      rintro e w1 ⟨v1, rfl, hown1, hb1⟩
      obtain ⟨A2, n2, c2, hv1, HN2, hc2, -⟩ := (IsTx.own hown1).split
      subst hv1
      obtain ⟨A3, c3, he3, hrow⟩ := hown1.where_
      injection he3 with g1 g2 g3
      subst g1
      have hn2 : n2 ≤ 10001 := by have := HN2.out; omega
      have B1 := hbel.trans (hb1.mono hwz)
      have ownA : OwnX w1 w.heap.size _ acc := Below.ownF hown hb1
      have HROW := Lib.hid hrow
      have HSep := Lib.hid (show Sep wr.heap.size w1.heap.size w1 w1 _ from ⟨fun _ _ _ => rfl, fun g e => .inl (hown.lt g e).2, Nat.le_refl _⟩)
      clear hown1 hb1 hown hP2 hrow g2 g3
      go_wp2_with fail
      obtain ⟨z0, hz0⟩ : ∃ z, wr.heap.size = z := ⟨_, rfl⟩
      obtain ⟨z1, hz1⟩ : ∃ z, w1.heap.size = z := ⟨_, rfl⟩
      rw [hz0, hz1] at HSep
      rw [hz0, hz1] at HROW
      go_loopw [3, 17] (fun vl i wr => ∃ j : Nat, j ≤ n2 ∧ i = .int .i64 j ∧ OwnX wr w.heap.size vl (acc ++ (P.take j).filter keepB) ∧ Below w.heap.size w wr ∧ Hid (Sep z0 z1 w1 wr vl)) (fun _ i _ => n2 - (intOf i).toNat)
      case atStart => exact ⟨0, Nat.zero_le _, rfl, by rw [List.take_zero, List.filter_nil, List.append_nil]; exact ownA, B1, HSep⟩
      case round =>
        clear ownA B1 hbel hwz hbz c0 hb
        obtain ⟨j, hj, rfl, hown, hbel, HSP⟩ := hrel
        have htx := HSP.out.txt HROW.out
        by_cases hjl : j < n2
        · have hjP : j < P.length := by have := HN2.out; omega
          obtain ⟨b2, o2, rfl, hb2, hc⟩ := htx (by omega)
          have c0 := hc j hjP
          clear hc htx
          have HF := Lib.hid (filter_take hjP)
          have HKB : ∀ y, y = P[j] → keepB P[j] = !y.toList.isEmpty := fun y e => by subst e; rfl
          have HKB2 := Lib.hid (HKB _ rfl)
          have hal : (acc ++ (P.take j).filter keepB).length ≤ 30000 := by
            rw [List.length_append]
            have := List.length_filter_le keepB (P.take j)
            rw [List.length_take] at this; omega
          obtain ⟨acc2, hac2⟩ : ∃ acc2, Hid (acc ++ (P.take j).filter keepB = acc2) := ⟨_, rfl⟩
          rw [hac2.out] at hown hal
          clear HKB
          generalize P[j] = y at *
          have hwz := hbel.size
          cases hy : y.toList.isEmpty with
          | true =>
            have HK : Hid (acc ++ (P.take (j + 1)).filter keepB = acc2) := by unfold Hid; rw [HF.out, HKB2.out, hy]; simpa using hac2.out
            clear HF HKB2 hac2
            go_wp2_with fail
            go_roundw
            case rel => exact ⟨j + 1, by omega, by go_num, by rw [HK.out]; exact hown, hbel, HSP⟩
            case measure => simp [intOf]; omega
          | false =>
            have HK : Hid (acc ++ (P.take (j + 1)).filter keepB = acc2 ++ [y]) := by unfold Hid; rw [HF.out, HKB2.out, hy, ← hac2.out]; simp
            clear HF HKB2 hac2
            have tok : True := trivial
            go_wp2_with (at_builtin; have _t := tok; refine app_tx_where wr (by rfl) _ _ (by rfl) w.heap.size _ acc2 y (by rfl) hown (by rfl) (by omega) hbel.size ?_; intro v6 w6 hown6 hgrow hwh; have B6 : Below w.heap.size w w6 := below_app hbel hbel.size hown hgrow; have HGR := Lib.hid (HSP.out.app hgrow hwh); clear hgrow hwh tok)
            go_roundw
            case rel => exact ⟨j + 1, by omega, by go_num, by rw [HK.out]; exact hown6, B6, HGR.out⟩
            case measure => simp [intOf]; omega
        · obtain rfl : j = n2 := by omega
          have HF : Hid (itemsD (l.take (k + 1)) = acc ++ (P.take j).filter keepB) := by unfold Hid; rw [HT2.out, List.take_of_length_le (by have := HN2.out; omega)]
          go_wp2_with fail
          go_roundw
          case rel => exact ⟨k + 1, by omega, by go_num, by rw [HF.out]; exact hown, hbel⟩
          case measure => simp [intOf]; omega
    · obtain rfl : k = n := by omega
      have HF : Hid (l.take k = l) := List.take_of_length_le (by have := HL.out; omega)
      rw [HF.out] at hown
      go_wp2_with fail
      go_ret
      exact ⟨_, rfl, hown, hbel⟩
end Go.Proofs.YtmlbinbhicdljaaDoor
