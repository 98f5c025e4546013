/-
  Rows of a block with elements of many cells: copy, clear and append write one piece of them.
-/
import Derived.Laws.OwnMore
import Derived.Laws.IdiomCopy
import Derived.Deep.AppendSrc
import Derived.Lib.AppendZerosOnto
import Derived.Lib.Overlaps
import Derived.Lib.SliceRun
import Derived.Shelf.Spec.SlicesInsert
import Derived.RowKit
namespace Go.Proofs.YthbjhpfgfpkppaaDoor
open Go Go.Lib
variable {P : Program}

/-- one piece of a block's cells written anew -/
def splice (cur : Array Value) (d : Nat) (vs : List Value) : Array Value := (cur.toList.take d ++ vs ++ cur.toList.drop (d + vs.length)).toArray
theorem splice_size {cur : Array Value} {d : Nat} {vs : List Value} (h : d + vs.length ≤ cur.size) : (splice cur d vs).size = cur.size := by
  unfold splice; simp; omega
theorem splice_low {cur : Array Value} {d k : Nat} {vs : List Value} (hk : k ≤ d) (hd : d ≤ cur.size) : (splice cur d vs).toList.take k = cur.toList.take k := by
  unfold splice
  rw [List.append_assoc]
  simp only [List.take_append, List.take_take, List.length_take, Array.length_toList]
  rw [Nat.min_eq_left hk, show k - min d cur.size = 0 by omega]
  simp
theorem splice_take {cur : Array Value} {d k : Nat} {vs : List Value} (hd : d ≤ cur.size) (hk : d + vs.length ≤ k) : (splice cur d vs).toList.take k = cur.toList.take d ++ vs ++ (cur.toList.take k).drop (d + vs.length) := by
  unfold splice
  simp only [List.take_append, List.take_take, List.length_take, Array.length_toList, List.length_append]
  rw [List.take_of_length_le (l := vs) (by omega), Nat.min_eq_right (by omega : d ≤ k), show min d cur.size = d by omega, List.take_drop, Nat.add_sub_cancel' hk]
theorem splice_drop {cur : Array Value} {d j : Nat} {vs : List Value} (hd : d + vs.length ≤ cur.size) (hj : d + vs.length ≤ j) (n : Nat) : ((splice cur d vs).toList.take n).drop j = (cur.toList.take n).drop j := by
  by_cases h : d + vs.length ≤ n
  · rw [splice_take (by omega) h]
    have hl : (cur.toList.take d ++ vs).length = d + vs.length := by simp; omega
    rw [show j = (cur.toList.take d ++ vs).length + (j - (d + vs.length)) by omega, List.drop_length_add_append, List.drop_drop]
    congr 1; omega
  · rw [List.drop_of_length_le (by simp; omega), List.drop_of_length_le (by simp; omega)]

theorem setRow_lt {w : World} {g : Nat} {cs : Array Value} : (w.setRow g cs).heap.size = w.heap.size := by simp [World.setRow]
theorem grown_setRow (w : World) (g : Nat) (cs : Array Value) : w.grownBy (w.setRow g cs) (some g) :=
  ⟨rfl, rfl, rfl, by rw [setRow_lt]; exact Nat.le_refl _, fun k _ hk => setRow_other w g k _ (fun e => hk (by rw [e]))⟩
theorem grownBy.trans' {a b c : World} {r : Option Nat} (h : a.grownBy b r) (k : b.grownBy c r) : a.grownBy c r :=
  ⟨k.os.trans h.os, k.tape.trans h.tape, k.output.trans h.output, Nat.le_trans h.size k.size, fun i hi hne => (k.block i (Nat.lt_of_lt_of_le hi h.size) hne).trans (h.block i hi hne)⟩
theorem grown_drew (w : World) (r : Option Nat) : w.grownBy w.drew r := ⟨rfl, rfl, rfl, Nat.le_refl _, fun _ _ _ => rfl⟩
/-- what turned was new -/
theorem grownBy.fresh {a b c : World} {r : Option Nat} {k : Nat} (h : a.grownBy b r) (hk : a.heap.size ≤ k) (h2 : b.grownBy c (some k)) : a.grownBy c r :=
  ⟨h2.os.trans h.os, h2.tape.trans h.tape, h2.output.trans h.output, Nat.le_trans h.size h2.size, fun i hi hne => (h2.block i (Nat.lt_of_lt_of_le hi h.size) (by intro e; injection e with e; omega)).trans (h.block i hi hne)⟩

/-- the cells that a row's block shows -/
theorem row_reads {w : World} {g : Nat} {cur : Array Value} {t : TypeId} (hg : w.heap[g]? = some (.cells cur t (0, 0))) (s n : Nat) : ∀ j u, ((cur.toList.take n).drop s)[j]? = some u → w.cell? ((⟨g, s, none⟩ : Addr).add j) = some u := fun j u hu => by
  rw [Addr.add_lit, cell_of_row w g _ cur t (0, 0) hg]
  rw [List.getElem?_drop, List.getElem?_take] at hu
  split at hu
  · simpa using hu
  · cases hu

/-- copy into a block -/
theorem run_copyR (w : World) (dT ty elem : TypeId) {i0 : TypeInfo} (hu : P.underlying dT = some (.slice elem)) (hi : P.info? elem = some i0) (g d dLen dCap : Nat) (cur : Array Value) (hg : w.heap[g]? = some (.cells cur elem (0, 0))) (a : Addr) (sLen sCap : Nat) (cs : List Value)
    (k : Nat) (hk : Nat.min sLen dLen = k) (hn : cs.length = k * i0.size) (hsrc : ∀ j v, cs[j]? = some v → w.cell? (a.add j) = some v) (hfit : d + cs.length ≤ cur.size) (h1 : ∀ v ∈ cs, v.oneCell' = true) :
    (Builtin.copy_ #[dT, dT] ty #[.slice (some ⟨g, d, none⟩) dLen dCap, .slice (some a) sLen sCap]).run P w = .ok (goInt k) (w.setRow g (splice cur d cs)) := by
  have hl := run_loadCells_list (P := P) w a cs hsrc
  rw [hn] at hl
  have hst := run_storeCells_at P g d elem cs 0 cur w hg (by simpa using hfit) h1
  simp only [Nat.add_zero] at hst
  simp [Builtin.copy_, run_underlying hu, Builtin.lenOf, Builtin.firstCells, sizeOf, typeInfo, hi, hk, hl, hst, splice]
/-- copy of nothing -/
theorem run_copyN (w : World) (dT ty elem : TypeId) {i0 : TypeInfo} (hu : P.underlying dT = some (.slice elem)) (hi : P.info? elem = some i0) (d : Option Addr) (dLen dCap c : Nat) :
    (Builtin.copy_ #[dT, dT] ty #[.slice d dLen dCap, .slice none 0 c]).run P w = .ok (goInt 0) w := by
  cases d <;> simp [Builtin.copy_, run_underlying hu, Builtin.lenOf, Builtin.firstCells, sizeOf, typeInfo, hi, storeCells]
/-- clear of a piece of a block -/
theorem run_clearR (w : World) (t e ty : TypeId) {i0 : TypeInfo} {z : Value} (ht : P.underlying t = some (.slice e)) (hi : P.info? e = some i0) (hz : i0.zero = some z) (h1 : ∀ v ∈ z.cells, v.oneCell' = true) (hs0 : 0 < z.cells.size) (g d n c : Nat) (cur : Array Value) (hg : w.heap[g]? = some (.cells cur e (0, 0)))
    (hfit : d + n * z.cells.size ≤ cur.size) :
    ∃ zs : List Value, zs.length = n * z.cells.size ∧ (Builtin.clear_ #[t] ty #[.slice (some ⟨g, d, none⟩) n c]).run P w = .ok (.tuple #[]) (w.setRow g (splice cur d zs)) := by
  refine ⟨(Builtin.zeroCells z.cells n).toList, by simp [Builtin.zeroCells], ?_⟩
  have hm : ∀ v ∈ (Builtin.zeroCells z.cells n).toList, v.oneCell' = true := fun v hv => by
    obtain ⟨i, _, rfl⟩ : ∃ i, i < n * z.cells.size ∧ z.cells[i % z.cells.size]! = v := by
      simpa [Builtin.zeroCells] using hv
    have hlt := Nat.mod_lt i hs0
    rw [getElem!_pos z.cells _ hlt]
    exact h1 _ (Array.getElem_mem hlt)
  have hst := run_storeCells_at P g d e (Builtin.zeroCells z.cells n).toList 0 cur w hg (by simpa [Builtin.zeroCells] using hfit) hm
  simp only [Nat.add_zero] at hst
  cases n with
  | zero =>
    have e0 : (Builtin.zeroCells z.cells 0).toList = [] := by simp [Builtin.zeroCells]
    rw [e0] at hst ⊢
    have hsp : splice cur d [] = cur := by unfold splice; simp
    rw [hsp, setRow_self w g cur e (0, 0) hg]
    simp [Builtin.clear_, run_underlying ht]
  | succ m =>
    simp [Builtin.clear_, run_underlying ht, zeroValue, typeInfo, hi, hz, hst, splice]

/-- a value's row is the old one, or new -/
def Kin (w : World) (r : Option Nat) (v : Value) : Prop := v.ownBlock = r ∨ ∃ k, v.ownBlock = some k ∧ w.heap.size ≤ k
/-- append to a row of the call's own: the row stays or is new -/
theorem run_append_kin (w : World) (base : Nat) (t ty e : TypeId) (i : TypeInfo) (z : Value) (size bytes : Nat) (ht : P.underlying t = some (.slice e)) (hi : P.info? e = some i) (hz : i.zero = some z)
    (hsize : i.size = size) (hby : i.bytes = bytes) (hzs : z.cells.size = size) (hsz : 0 < size)
    (v : Value) (n : Nat) (xs : List Value) (hown : w.ownsRow base e size v n xs)
    (a : Addr) (m c : Nat) (news : List Value) (hl : news.length = m * size) (hnews : ∀ j u, news[j]? = some u → w.cell? (a.add j) = some u) (h1 : ∀ u ∈ news, u.oneCell' = true) (hm : 0 < m)
    (h63 : n + m ≤ maxLen) (hbytes : (n + m) * bytes ≤ 140737488355328) (hbase : base ≤ w.heap.size) :
    ∃ v' w', (Builtin.append_ #[t, t] ty #[v, .slice (some a) m c]).run P w = .ok v' w' ∧ w'.ownsRow base e size v' (n + m) (xs ++ news) ∧ w.grownBy w' v.ownBlock ∧ Kin w v.ownBlock v' := by
  obtain ⟨v', w', hr, h2, h3, _⟩ := run_append_own (P := P) w base t ty e i z size bytes ht hi hz hsize hby hzs hsz v n xs hown a m c news hl hnews h1 h63 hbytes hbase
  refine ⟨v', w', hr, h2, h3, ?_⟩
  have hsmall : n + m ≤ 9223372036854775807 := by simp only [maxLen] at h63; omega
  rcases hown.2 with ⟨rfl, rfl⟩ | ⟨g, cap, cur, rfl, hbg, hg, hnc, hcm, hcs, htake⟩
  · have hr2 := run_append_nil (P := P) w t ty e i z ht hi hz a m c news (by rw [hsize]; exact hl) hnews hm (by omega) (by rw [hby]; rw [Nat.zero_add] at hbytes; omega)
    rw [hr2] at hr
    injection hr with e1 _
    exact .inr ⟨w.heap.size, by rw [← e1]; rfl, Nat.le_refl _⟩
  · by_cases hroom : n + m ≤ cap
    · obtain ⟨w2, hr2, _⟩ := run_append_fits (P := P) w base t ty e i size ht hi hsize g n cap xs hown a m c news hl hnews h1 hroom
      rw [hr2] at hr
      injection hr with e1 _
      exact .inl (by rw [← e1]; rfl)
    · have hr2 := run_append_grow (P := P) (ty := ty) w t e i z ht hi hz ⟨g, 0, none⟩ n cap xs (by rw [hsize]; exact hown.1) (hown.cells (g := g) rfl) a m c news (by rw [hsize]; exact hl) hnews (by omega) (by omega) (growslice_fits (by omega) (by rw [hby]; exact hbytes))
      rw [hr2] at hr
      injection hr with e1 _
      exact .inr ⟨w.heap.size, by rw [← e1]; rfl, Nat.le_refl _⟩
end Go.Proofs.YthbjhpfgfpkppaaDoor
