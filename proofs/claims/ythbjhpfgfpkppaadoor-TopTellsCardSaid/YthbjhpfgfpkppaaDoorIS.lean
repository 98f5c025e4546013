/-
  slices.Insert and slices.Replace at runs: what they hand back, whatever room there is.
-/
import Derived.Test.YthbjhpfgfpkppaaDoorSpanA
import Derived.Test.YthbjhpfgfpkppaaDoorIR
import Derived.Lib.Hide
import Derived.KernelRfl
namespace Go.Proofs.YthbjhpfgfpkppaaDoor
open Go Go.RowKit Go.Lib

theorem infoRn : (Tryd.prog.info? 61).map (fun i => (i.zero, i.size, i.bytes)) = some (some (.agg #[.int .i64 0, .int .i64 0, .int .u8 0]), 3, 24) := by kernel_rfl

/-- a block of runs' cells -/
abbrev Blk (w : World) (g : Nat) (cur : Array Value) : Prop := w.heap[g]? = some (.cells cur 61 (0, 0))
theorem Blk.eq {w W : World} {g : Nat} {cur : Array Value} (h : Blk w g cur) (e : W.heap = w.heap) : Blk W g cur := by unfold Blk; rw [e]; exact h
theorem Blk.set {w : World} {g : Nat} {cur : Array Value} (h : Blk w g cur) (c' : Array Value) : Blk (w.setRow g c') g c' := setRow_heap w g cur c' _ _ h
theorem Blk.other {w : World} {g k : Nat} {cur c' : Array Value} (h : Blk w k cur) (hk : k ≠ g) : Blk (w.setRow g c') k cur := by unfold Blk; rw [setRow_other w g k c' hk]; exact h
theorem Blk.lt {w : World} {g : Nat} {cur : Array Value} (h : Blk w g cur) : g < w.heap.size := (Array.getElem?_eq_some_iff.1 h).1

/-- what a call leaves that writes vs in the place of the elements i .. j of a row of n -/
def RepPost (base g i j n m : Nat) (xs news : List Value) (w w' : World) (e : Ending) : Prop :=
  ∃ v', e = .returned v' ∧ w'.ownsRow base 61 3 v' (i + m + (n - j)) (xs.take (i * 3) ++ news ++ xs.drop (j * 3)) ∧ w.grownBy w' (some g) ∧ Kin w (some g) v'

theorem own_row {w : World} {base g n c : Nat} {xs : List Value} (h : w.ownsRow base 61 3 (.slice (some ⟨g, 0, none⟩) n c) n xs) :
    ∃ cur, Blk w g cur ∧ base ≤ g ∧ n ≤ c ∧ c ≤ maxLen ∧ cur.size = c * 3 ∧ cur.toList.take (n * 3) = xs := by
  rcases h.2 with ⟨h', _⟩ | ⟨g', cap', cur, h', hb, hg, h1, h2, h3, h4⟩
  · simp at h'
  · simp only [Value.slice.injEq, Option.some.injEq, Addr.mk.injEq, and_true, true_and] at h'
    obtain ⟨rfl, rfl⟩ := h'
    exact ⟨cur, hg, hb, h1, h2, h3, h4⟩
theorem row_own {w : World} {base g n c : Nat} {xs : List Value} {cur : Array Value} (hg : Blk w g cur) (hb : base ≤ g) (h1 : n ≤ c) (h2 : c ≤ maxLen) (h3 : cur.size = c * 3) (h4 : cur.toList.take (n * 3) = xs) :
    w.ownsRow base 61 3 (.slice (some ⟨g, 0, none⟩) n c) n xs :=
  ⟨by rw [← h4]; simp; omega, .inr ⟨g, c, cur, rfl, hb, hg, h1, h2, h3, h4⟩⟩

theorem overlaps_no (w : World) (g vb o o' la ca lb cb : Nat) (cur vcur : Array Value) (hg : Blk w g cur) (hv : Blk w vb vcur) (hne : g ≠ vb) (hz : 0 < vcur.size) :
    (callFunc 45 #[.slice (some ⟨g, o, none⟩) la ca, .slice (some ⟨vb, o', none⟩) lb cb]).run Tryd.prog w = .ok (.value (.bool false)) w := by
  obtain ⟨i0, hi, hz0, hz1, hz2⟩ := info_parts infoRn
  have hs : ∀ w, (Go.sizeOf 61).run Tryd.prog w = .ok 3 w := fun w => by simp [sizeOf, typeInfo, hi, hz1]
  rw [run_callFunc_extern Tryd.func45 (by kernel_rfl) (by kernel_rfl) (by kernel_rfl) (e := Extern.SlicesOverlaps.overlaps #[46, 46] #[4]) (by kernel_rfl),
    Lib.run_overlaps_apart w 46 4 61 Tryd.underlying46 3 hs ⟨g, o, none⟩ ⟨vb, o', none⟩ la ca lb cb hne 61 61 cur.size vcur.size
      (by simp [World.shape?, show w.heap[g]? = _ from hg]) (by simp [World.shape?, show w.heap[vb]? = _ from hv]) (by omega)
      (by simp [World.frozen?, show w.heap[g]? = _ from hg]) (by simp [World.frozen?, show w.heap[g]? = _ from hg])]
  rfl

set_option maxHeartbeats 4000000 in
set_option maxRecDepth 100000 in
/-- at the end -/
theorem insert_end (base n vb m vc : Nat) (v : Value) (c : Nat) (A : Option Addr) (hv : v = .slice A n c) (vcur : Array Value) (xs news : List Value) (w : World) (hown : w.ownsRow base 61 3 v n xs) (_hnc : n ≤ c) (hb : base ≤ w.heap.size)
    (hvb : Blk w vb vcur) (hm : 0 < m) (hvl : news.length = m * 3) (hvn : vcur.toList.take (m * 3) = news) (h1 : ∀ u ∈ news, u.oneCell' = true) (hn : n ≤ 1000000) (hm2 : m ≤ 1000000) :
    Calls Tryd.prog 44 #[v, .int .i64 n, .slice (some ⟨vb, 0, none⟩) m vc] w fun e w' =>
      ∃ v', e = .returned v' ∧ w'.ownsRow base 61 3 v' (n + m) (xs ++ news) ∧ w.grownBy w' v.ownBlock ∧ Kin w v.ownBlock v' := by
  obtain ⟨i0, hi, hz0, hz1, hz2⟩ := info_parts infoRn
  have hz1' : ¬ ((m : Int) = 0) := by omega
  have hnews : ∀ j u, news[j]? = some u → w.cell? ((⟨vb, 0, none⟩ : Addr).add j) = some u := fun j u hj => by
    have := row_reads hvb 0 (m * 3) j u
    rw [List.drop_zero, hvn] at this
    exact this hj
  obtain ⟨v', w', hr, k1, k2, k3⟩ := run_append_kin (P := Tryd.prog) w base 46 46 61 i0 _ 3 24 Tryd.underlying46 hi hz0 hz1 hz2 rfl (by omega) v n xs hown ⟨vb, 0, none⟩ m vc news hvl hnews h1 hm (by unfold maxLen; omega) (by omega) hb
  have K1 := Lib.hid k1; have K2 := Lib.hid k2; have K3 := Lib.hid k3
  clear k1 k2 k3 hown
  subst hv
  go_enter Tryd.func44, Tryd.ntmps44
  cases A with
  | none =>
    go_wp2_with (at_builtin; refine Lib.wpList_append_run _ rfl _ _ _ _ rfl _ _ rfl rfl _ _ hr ?_)
    go_ret
    exact ⟨v', rfl, K1.out, K2.out, K3.out⟩
  | some a =>
    obtain ⟨ab, ao, asp⟩ := a
    go_wp2_with (at_builtin; refine Lib.wpList_append_run _ rfl _ _ _ _ rfl _ _ rfl rfl _ _ hr ?_)
    all_goals (go_ret; exact ⟨v', rfl, K1.out, K2.out, K3.out⟩)

/-- a tail first, then what stands ahead of it -/
theorem splice2_take {cur : Array Value} {d1 d2 N : Nat} {tl news : List Value} (h2 : d2 + news.length = d1) (h1 : d1 + tl.length = N) (hN : N ≤ cur.size) : (splice (splice cur d1 tl) d2 news).toList.take N = cur.toList.take d2 ++ news ++ tl := by
  have e1 : (cur.toList.take d1).length = d1 := by simp; omega
  have e2 : (cur.toList.take N).length ≤ d1 + tl.length := by simp; omega
  rw [splice_take (by rw [splice_size (by omega)]; omega) (by omega), splice_low (by omega) (by omega), splice_take (by omega) (by omega), List.drop_of_length_le e2, List.append_nil, h2, List.drop_append_of_le_length (by omega), List.drop_of_length_le (by omega), List.nil_append]
theorem take_of {L xs : List Value} {n i : Nat} (hx : L.take (n * 3) = xs) (hi : i ≤ n) : L.take (i * 3) = xs.take (i * 3) := by
  rw [← hx, List.take_take, Nat.min_eq_left (by omega)]
/-- the facts of three lists of cells -/
theorem fin_own {w W : World} {base g g' c i j n m : Nat} {xs news : List Value} {cur : Array Value} (hos : W.os = w.os) (htape : W.tape = w.tape) (hout : W.output = w.output) (hsz : w.heap.size ≤ W.heap.size) (hoth : ∀ k, k < w.heap.size → k ≠ g → W.heap[k]? = w.heap[k]?)
    (hg : Blk W g' cur) (hb : base ≤ g') (h1 : i + m + (n - j) ≤ c) (h2 : c ≤ maxLen) (h3 : cur.size = c * 3) (h4 : cur.toList.take ((i + m + (n - j)) * 3) = xs.take (i * 3) ++ news ++ xs.drop (j * 3)) {N : Nat} (hN : N = i + m + (n - j)) (hkin : g' = g ∨ w.heap.size ≤ g') :
    RepPost base g i j n m xs news w W (.returned (.slice (some ⟨g', 0, none⟩) N c)) := by
  subst hN
  exact ⟨_, rfl, row_own hg hb h1 h2 h3 h4, ⟨hos, htape, hout, hsz, fun k hk hne => hoth k hk (fun e => hne (by rw [e]))⟩, hkin.elim (fun e => .inl (by rw [e]; rfl)) (fun e => .inr ⟨g', rfl, e⟩)⟩

set_option maxHeartbeats 4000000 in
set_option maxRecDepth 100000 in
/-- in place, ahead of some -/
theorem insert_shift (base g n c i vb m vc : Nat) (cur vcur : Array Value) (xs news : List Value) (w : World) (hg : Blk w g cur) (hbg : base ≤ g) (hnc : n ≤ c) (hcm : c ≤ maxLen) (hcs : cur.size = c * 3) (hx : cur.toList.take (n * 3) = xs) (hx1 : ∀ u ∈ xs, u.oneCell' = true)
    (hvb : Blk w vb vcur) (hne : vb ≠ g) (hm : 0 < m) (_hvs : m * 3 ≤ vcur.size) (hvl : news.length = m * 3) (hvn : vcur.toList.take (m * 3) = news) (h1 : ∀ u ∈ news, u.oneCell' = true) (hi : i < n) (hroom : n + m ≤ c) :
    Calls Tryd.prog 44 #[.slice (some ⟨g, 0, none⟩) n c, .int .i64 i, .slice (some ⟨vb, 0, none⟩) m vc] w fun e w' => RepPost base g i i n m xs news w w' e := by
  obtain ⟨i0, hi0, hz0, hz1, hz2⟩ := info_parts infoRn
  have mixed : Tryd.prog.follows .mixedOrders = true := by kernel_rfl
  have hc63 : c ≤ 9223372036854775807 := by unfold maxLen at hcm; omega
  have q1 : ¬ ((m : Int) = 0) := by omega
  have q2 : ¬ ((i : Int) = (n : Int)) := by omega
  have hxl : xs.length = n * 3 := by rw [← hx]; simp; omega
  have hov : ∀ lb cb, (callFunc 45 #[.slice (some ⟨vb, 0, none⟩) m vc, .slice (some ⟨g, (i + m) * 3, none⟩) lb cb]).run Tryd.prog w = .ok (.value (.bool false)) w := fun lb cb => overlaps_no w vb g 0 ((i + m) * 3) m vc lb cb vcur cur hvb hg hne (by omega)
  have hw1 : IntKind.i64.wrap ((i : Int) + (m : Int)) = (i : Int) + (m : Int) := by rw [IntKind.wrap_i64]; omega
  have hw2 : IntKind.i64.wrap ((n : Int) + (m : Int)) = (n : Int) + (m : Int) := by rw [IntKind.wrap_i64]; omega
  have hb1 : (0 : Int) ≤ (i : Int) + (m : Int) := by omega
  have hin : i ≤ n := by omega
  have htn : ((i : Int) + (m : Int)).toNat = i + m := by omega
  have htn2 : ((n : Int) + (m : Int)).toNat = n + m := by omega
  have hb2 : ¬ (c = i + m) := by omega
  have hb3 : (i : Int) ≤ (n : Int) + (m : Int) := by omega
  have hb4 : ¬ (c = i) := by omega
  have hb5 : (i : Int) + (m : Int) ≤ (n : Int) + (m : Int) := by omega
  have hb6 : (n : Int) + (m : Int) ≤ (c : Int) := by omega
  have htl : (xs.drop (i * 3)).length = (n - i) * 3 := by rw [List.length_drop, hxl]; omega
  have cp1 : ∀ (W : World), W.heap = w.heap → ∀ ty dc sc, (Builtin.copy_ #[46, 46] ty #[.slice (some ⟨g, (i + m) * 3, none⟩) (n + m - (i + m)) dc, .slice (some ⟨g, i * 3, none⟩) (n + m - i) sc]).run Tryd.prog W = .ok (goInt (n - i : Nat)) (W.setRow g (splice cur ((i + m) * 3) (xs.drop (i * 3)))) := fun W hW ty dc sc => by
    have := run_copyR W 46 ty 61 Tryd.underlying46 hi0 g ((i + m) * 3) (n + m - (i + m)) dc cur (hg.eq hW) ⟨g, i * 3, none⟩ (n + m - i) sc (xs.drop (i * 3)) (n - i) (by simp only [Nat.min_def]; split <;> omega) (by rw [hz1]; exact htl)
      (by rw [← hx]; exact row_reads (hg.eq hW) _ _) (by rw [htl]; omega) (fun u hu => hx1 u (List.mem_of_mem_drop hu))
    exact this
  have cp2 : ∀ (W : World), Blk W g (splice cur ((i + m) * 3) (xs.drop (i * 3))) → Blk W vb vcur → ∀ ty dc, (Builtin.copy_ #[46, 46] ty #[.slice (some ⟨g, i * 3, none⟩) (n + m - i) dc, .slice (some ⟨vb, 0, none⟩) m vc]).run Tryd.prog W = .ok (goInt m) (W.setRow g (splice (splice cur ((i + m) * 3) (xs.drop (i * 3))) (i * 3) news)) := fun W hW hV ty dc => by
    have := run_copyR W 46 ty 61 Tryd.underlying46 hi0 g (i * 3) (n + m - i) dc _ hW ⟨vb, 0, none⟩ m vc news m (by simp only [Nat.min_def]; split <;> omega) (by rw [hz1]; exact hvl)
      (fun j u hj => by have := row_reads hV 0 (m * 3) j u; rw [List.drop_zero, hvn] at this; exact this hj) (by rw [splice_size (by rw [htl]; omega), hvl]; omega) h1
    exact this
  go_enter Tryd.func44, Tryd.ntmps44
  go_wp2_with (simp only [hov])
  have cp1' := cp1 w.drew rfl
  have hgd : Blk w.drew g cur := hg
  have hvd : Blk w.drew vb vcur := hvb
  have cp2' := cp2 (w.drew.setRow g (splice cur ((i + m) * 3) (xs.drop (i * 3)))) (Blk.set hgd _) (Blk.other hvd hne)
  go_region_law_o (refine step_copy_runI rfl _ _ 46 46 rfl _ _ (by simp [Act.eval, Act.put]) (by simp [Act.eval, Act.put]) (cp1' _ _ _) ?_)
  go_wp2_with (at_builtin; refine wpList_copy_runI _ rfl _ _ 46 46 rfl _ _ rfl rfl (cp2' _ _) ?_)
  go_ret
  refine fin_own (by rfl) (by rfl) (by rfl) (by simp) (fun k _ hk => by rw [setRow_other _ _ _ _ hk, setRow_other _ _ _ _ hk]; rfl) (Blk.set (Blk.set hgd _) _) hbg (by omega) hcm ?_ ?_ (by omega) (.inl rfl)
  · rw [splice_size (by rw [splice_size (by rw [htl]; omega), hvl]; omega), splice_size (by rw [htl]; omega)]; exact hcs
  · rw [splice2_take (by rw [hvl]; omega) (by rw [htl]; omega) (by omega), take_of hx hin]

/-- what stands ahead, then a tail -/
theorem splice_up_take {cur : Array Value} {d1 d2 N : Nat} {tl news : List Value} (h2 : d2 + news.length = d1) (h1 : d1 + tl.length = N) (hN : N ≤ cur.size) : (splice (splice cur d2 news) d1 tl).toList.take N = cur.toList.take d2 ++ news ++ tl := by
  have e0 : d1 ≤ (splice cur d2 news).size := by rw [splice_size (by omega)]; omega
  have e1 : ((splice cur d2 news).toList.take N).length ≤ d1 + tl.length := by simp; omega
  have e2 : (cur.toList.take d1).length ≤ d2 + news.length := by simp; omega
  rw [splice_take e0 (by omega), List.drop_of_length_le e1, List.append_nil, splice_take (by omega) (by omega), List.drop_of_length_le e2, List.append_nil]
/-- the row that an append of zero cells makes -/
theorem grown_row (w : World) (g i c N : Nat) (cur : Array Value) (hg : Blk w g cur) (hi : i * 3 ≤ cur.size) (hN : i < N) (hc : c < N) (hbig : N ≤ 4000000) :
    ∃ (row : Array Value) (G : Nat), N ≤ G ∧ G ≤ maxLen ∧ row.size = G * 3 ∧ row.toList.take (i * 3) = cur.toList.take (i * 3) ∧
      ∀ ty, (Builtin.append_ #[46, 3] ty #[.slice (some ⟨g, 0, none⟩) i c, .int .i64 ((N : Int) - (i : Int))]).run Tryd.prog w =
        .ok (.slice (some ⟨w.heap.size, 0, none⟩) N G) (w.drew.alloc (.cells row 61)) := by
  obtain ⟨i0, hi0, hz0, hz1, hz2⟩ := info_parts infoRn
  have hlen : (cur.toList.take (i * 3)).length = i * 3 := by simp; omega
  have hold : (Builtin.firstCells i0.size i (.slice (some ⟨g, 0, none⟩) i c)).run Tryd.prog w.drew = .ok (cur.toList.take (i * 3)).toArray w.drew := by
    rw [hz1]
    refine run_firstCells_some w.drew 3 i ⟨g, 0, none⟩ i c _ hlen (fun j v hj => ?_)
    have := row_reads (w := w.drew) (cur := cur) hg 0 (i * 3) j v
    rw [List.drop_zero] at this
    exact this hj
  have hz3 : (Value.agg #[.int .i64 0, .int .i64 0, .int .u8 0]).cells.size = 3 := rfl
  have hge := grownCap_ge w N c 61
  refine ⟨(cur.toList.take (i * 3)).toArray ++ Builtin.zeroCells (Value.agg #[.int .i64 0, .int .i64 0, .int .u8 0]).cells (N - i) ++ Builtin.zeroCells (Value.agg #[.int .i64 0, .int .i64 0, .int .u8 0]).cells (grownCap w N c 61 - N), grownCap w N c 61, hge, grownCap_le_maxLen _ _ _ _ (by unfold maxLen; omega), ?_, ?_, fun ty => ?_⟩
  · simp only [Array.size_append, size_zeroCells, hz3, List.size_toArray, hlen]; omega
  · simp only [Array.toList_append, List.append_assoc]
    rw [List.take_append_of_le_length (by omega), List.take_of_length_le (by omega)]
  · have hk : ((N : Int) - (i : Int)) = ((N - i : Nat) : Int) := by omega
    have hik : i + (N - i) = N := by omega
    have h := Lib.run_append_grow_zeros w 46 3 ty 61 i0 _ .i64 .i64 Tryd.underlying46 Tryd.underlying3 hi0 hz0 (some ⟨g, 0, none⟩) i c _ hold (N - i) (by omega) (by omega) (by omega) (by omega) (by rw [hz2]; omega) (by rw [hik, hz2]; exact growslice_fits hc (by omega))
    rw [hik] at h
    rw [hk]
    exact h

set_option maxHeartbeats 4000000 in
set_option maxRecDepth 100000 in
/-- ahead of some, no room -/
theorem insert_grow (base g n c i vb m vc : Nat) (cur vcur : Array Value) (xs news : List Value) (w : World) (hg : Blk w g cur) (_hbg : base ≤ g) (hnc : n ≤ c) (hcm : c ≤ maxLen) (hcs : cur.size = c * 3) (hx : cur.toList.take (n * 3) = xs) (hx1 : ∀ u ∈ xs, u.oneCell' = true)
    (hvb : Blk w vb vcur) (hm : 0 < m) (hvl : news.length = m * 3) (hvn : vcur.toList.take (m * 3) = news) (h1 : ∀ u ∈ news, u.oneCell' = true) (hi : i < n) (hroom : c < n + m) (hn : n ≤ 1000000) (hm2 : m ≤ 1000000) (hb : base ≤ w.heap.size) :
    Calls Tryd.prog 44 #[.slice (some ⟨g, 0, none⟩) n c, .int .i64 i, .slice (some ⟨vb, 0, none⟩) m vc] w fun e w' => RepPost base g i i n m xs news w w' e := by
  obtain ⟨i0, hi0, hz0, hz1, hz2⟩ := info_parts infoRn
  have mixed : Tryd.prog.follows .mixedOrders = true := by kernel_rfl
  have hc63 : c ≤ 9223372036854775807 := by unfold maxLen at hcm; omega
  have q1 : ¬ ((m : Int) = 0) := by omega
  have q2 : ¬ ((i : Int) = (n : Int)) := by omega
  have q3 : (c : Int) < (n : Int) + (m : Int) := by omega
  have hxl : xs.length = n * 3 := by rw [← hx]; simp; omega
  have hw1 : IntKind.i64.wrap ((i : Int) + (m : Int)) = (i : Int) + (m : Int) := by rw [IntKind.wrap_i64]; omega
  have hw2 : IntKind.i64.wrap ((n : Int) + (m : Int)) = (n : Int) + (m : Int) := by rw [IntKind.wrap_i64]; omega
  have hw3 : IntKind.i64.wrap ((n : Int) + (m : Int) - (i : Int)) = (n : Int) + (m : Int) - (i : Int) := by rw [IntKind.wrap_i64]; omega
  have hb1 : (0 : Int) ≤ (i : Int) + (m : Int) := by omega
  have hin : i ≤ n := by omega
  have htn : ((i : Int) + (m : Int)).toNat = i + m := by omega
  have hb3 : (i : Int) ≤ (n : Int) + (m : Int) := by omega
  have hb4 : ¬ (c = i) := by omega
  have hb5 : (i : Int) + (m : Int) ≤ (n : Int) + (m : Int) := by omega
  have htl : (xs.drop (i * 3)).length = (n - i) * 3 := by rw [List.length_drop, hxl]; omega
  obtain ⟨row, G, hG, hGm, hrs, hrt, hrun⟩ := grown_row w g i c (n + m) cur hg (by omega) (by omega) hroom (by omega)
  have hG63 : G ≤ 9223372036854775807 := by unfold maxLen at hGm; omega
  have hGi : ¬ (G = i) := by omega
  have hGim : ¬ (G = i + m) := by omega
  have hgs := hg.lt
  have hvs := hvb.lt
  obtain ⟨W1, hW1⟩ : ∃ W1, W1 = w.drew.alloc (.cells row 61) := ⟨_, rfl⟩
  rw [← hW1] at hrun
  have hrun' : ∀ ty, (Builtin.append_ #[46, 3] ty #[.slice (some ⟨g, 0, none⟩) i c, .int .i64 ((n : Int) + (m : Int) - (i : Int))]).run Tryd.prog w = .ok (.slice (some ⟨w.heap.size, 0, none⟩) (n + m) G) W1 := fun ty => by
    have := hrun ty
    rwa [Int.natCast_add] at this
  have N1 : Blk W1 w.heap.size row := by rw [hW1]; exact heap_alloc_new w.drew _
  have G1 : Blk W1 g cur := by rw [hW1]; exact (heap_alloc_old w.drew _ hgs).trans hg
  have V1 : Blk W1 vb vcur := by rw [hW1]; exact (heap_alloc_old w.drew _ hvs).trans hvb
  have cpA : ∀ ty dc, (Builtin.copy_ #[46, 46] ty #[.slice (some ⟨w.heap.size, i * 3, none⟩) (n + m - i) dc, .slice (some ⟨vb, 0, none⟩) m vc]).run Tryd.prog W1 = .ok (goInt m) (W1.setRow w.heap.size (splice row (i * 3) news)) := fun ty dc =>
    run_copyR W1 46 ty 61 Tryd.underlying46 hi0 w.heap.size (i * 3) (n + m - i) dc row N1 ⟨vb, 0, none⟩ m vc news m (by simp only [Nat.min_def]; split <;> omega) (by rw [hz1]; exact hvl)
      (fun j u hj => by have := row_reads V1 0 (m * 3) j u; rw [List.drop_zero, hvn] at this; exact this hj) (by rw [hvl]; omega) h1
  have N2 : Blk (W1.setRow w.heap.size (splice row (i * 3) news)).drew w.heap.size (splice row (i * 3) news) := Blk.set N1 _
  have G2 : Blk (W1.setRow w.heap.size (splice row (i * 3) news)).drew g cur := Blk.other G1 (by omega)
  have cpB : ∀ ty dc sc, (Builtin.copy_ #[46, 46] ty #[.slice (some ⟨w.heap.size, (i + m) * 3, none⟩) (n + m - (i + m)) dc, .slice (some ⟨g, i * 3, none⟩) (n - i) sc]).run Tryd.prog (W1.setRow w.heap.size (splice row (i * 3) news)).drew =
      .ok (goInt (n - i : Nat)) ((W1.setRow w.heap.size (splice row (i * 3) news)).drew.setRow w.heap.size (splice (splice row (i * 3) news) ((i + m) * 3) (xs.drop (i * 3)))) := fun ty dc sc =>
    run_copyR _ 46 ty 61 Tryd.underlying46 hi0 w.heap.size ((i + m) * 3) (n + m - (i + m)) dc _ N2 ⟨g, i * 3, none⟩ (n - i) sc (xs.drop (i * 3)) (n - i) (by simp only [Nat.min_def]; split <;> omega) (by rw [hz1]; exact htl)
      (by rw [← hx]; exact row_reads G2 _ _) (by rw [splice_size (by rw [hvl]; omega), htl]; omega) (fun u hu => hx1 u (List.mem_of_mem_drop hu))
  have HW := Lib.hid hW1
  clear hW1 hrun
  go_enter Tryd.func44, Tryd.ntmps44
  go_wp2_with (at_builtin; first | refine Lib.wpList_append_run _ rfl _ _ _ _ rfl _ _ rfl rfl _ _ (hrun' _) ?_ | refine wpList_copy_runI _ rfl _ _ 46 46 rfl _ _ rfl rfl (cpA _ _) ?_)
  go_region_law_o (refine step_copy_runI rfl _ _ 46 46 rfl _ _ (by simp [Act.eval, Act.put]) (by simp [Act.eval, Act.put]) (cpB _ _ _) ?_)
  go_wp2
  go_ret
  have hW1 := HW.out
  refine fin_own (by rw [hW1]; rfl) (by rw [hW1]; rfl) (by rw [hW1]; rfl) (by rw [hW1]; simp [World.setRow]) (fun k hk _ => ?_) (Blk.set N2 _) hb (by omega) hGm ?_ ?_ (by omega) (.inr (Nat.le_refl _))
  · rw [setRow_other _ _ _ _ (by omega)]
    show (W1.setRow _ _).heap[k]? = _
    rw [setRow_other _ _ _ _ (by omega), hW1]
    exact heap_alloc_old w.drew _ hk
  · rw [splice_size (by rw [splice_size (by rw [hvl]; omega), htl]; omega), splice_size (by rw [hvl]; omega)]; exact hrs
  · rw [splice_up_take (by rw [hvl]; omega) (by rw [htl]; omega) (by omega), hrt, take_of hx hin]

/-- cells of nothing -/
def zc (k : Nat) : List Value := (Builtin.zeroCells (Value.agg #[.int .i64 0, .int .i64 0, .int .u8 0]).cells k).toList
theorem zc_len (k : Nat) : (zc k).length = k * 3 := by simp [zc, Builtin.zeroCells, Value.cells]
theorem clear_blk {W : World} {g : Nat} {cur : Array Value} (hg : Blk W g cur) (ty : TypeId) (d n c : Nat) (hfit : d + n * 3 ≤ cur.size) :
    (Builtin.clear_ #[46] ty #[.slice (some ⟨g, d, none⟩) n c]).run Tryd.prog W = .ok (.tuple #[]) (W.setRow g (splice cur d (zc n))) := by
  obtain ⟨i0, hi0, hz0, hz1, hz2⟩ := info_parts infoRn
  have hm : ∀ v ∈ zc n, v.oneCell' = true := fun v hv => by
    obtain ⟨i, _, rfl⟩ : ∃ i, i < n * (Value.agg #[.int .i64 0, .int .i64 0, .int .u8 0]).cells.size ∧ (Value.agg #[.int .i64 0, .int .i64 0, .int .u8 0]).cells[i % (Value.agg #[.int .i64 0, .int .i64 0, .int .u8 0]).cells.size]! = v := by
      simpa [zc, Builtin.zeroCells] using hv
    have hlt : i % 3 < 3 := Nat.mod_lt i (by omega)
    show ((#[.int .i64 0, .int .i64 0, .int .u8 0] : Array Value)[i % 3]!).oneCell' = true
    rcases (by omega : i % 3 = 0 ∨ i % 3 = 1 ∨ i % 3 = 2) with h | h | h <;> rw [h] <;> rfl
  have hst := run_storeCells_at Tryd.prog g d 61 (zc n) 0 cur W hg (by rw [zc_len]; simpa using hfit) hm
  simp only [Nat.add_zero] at hst
  cases n with
  | zero =>
    have hsp : splice cur d (zc 0) = cur := by unfold splice zc; simp [Builtin.zeroCells]
    rw [hsp, setRow_self W g cur _ (0, 0) hg]
    simp [Builtin.clear_, run_underlying Tryd.underlying46]
  | succ m =>
    have hst' := hst
    unfold zc at hst'
    simp [Builtin.clear_, run_underlying Tryd.underlying46, zeroValue, typeInfo, hi0, hz0, hst', splice, zc]
/-- nothing to clear -/
theorem clear_none (W : World) (ty : TypeId) (d : Option Addr) (c : Nat) : (Builtin.clear_ #[46] ty #[.slice d 0 c]).run Tryd.prog W = .ok (.tuple #[]) W := by
  cases d <;> simp [Builtin.clear_, run_underlying Tryd.underlying46]
end Go.Proofs.YthbjhpfgfpkppaaDoor
