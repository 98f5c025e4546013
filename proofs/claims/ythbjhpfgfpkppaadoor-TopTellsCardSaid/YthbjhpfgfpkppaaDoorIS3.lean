/-
  slices.Replace at runs: its roads ahead of some.
-/
import Derived.Test.YthbjhpfgfpkppaaDoorIS2
namespace Go.Proofs.YthbjhpfgfpkppaaDoor
open Go Go.RowKit Go.Lib

set_option maxHeartbeats 4000000 in
set_option maxRecDepth 100000 in
/-- ahead of some, no more than there were -/
theorem replace_mid_less (base g n c i j vb m vc : Nat) (cur vcur : Array Value) (xs news : List Value) (w : World) (hg : Blk w g cur) (hbg : base ≤ g) (hnc : n ≤ c) (hcm : c ≤ maxLen) (hcs : cur.size = c * 3) (hx : cur.toList.take (n * 3) = xs)
    (hx1 : ∀ u ∈ xs, u.oneCell' = true) (hvb : Blk w vb vcur) (_hne : vb ≠ g) (hm : 0 < m) (hvl : news.length = m * 3) (hvn : vcur.toList.take (m * 3) = news) (h1 : ∀ u ∈ news, u.oneCell' = true) (hij : i < j) (hj : j < n) (hless : i + m ≤ j) (hn : n ≤ 1000000) :
    Calls Tryd.prog 26 #[.slice (some ⟨g, 0, none⟩) n c, .int .i64 i, .int .i64 j, .slice (some ⟨vb, 0, none⟩) m vc] w fun e w' => RepPost base g i j n m xs news w w' e := by
  obtain ⟨i0, hi0, hz0, hz1, hz2⟩ := info_parts infoRn
  have mixed : Tryd.prog.follows .mixedOrders = true := by kernel_rfl
  have hc63 : c ≤ 9223372036854775807 := by unfold maxLen at hcm; omega
  have q2 : ¬ ((i : Int) = (j : Int)) := by omega
  have p1 : (i : Int) ≤ (j : Int) := by omega
  have hij' : i ≤ j := by omega
  have hb4 : ¬ (c = i) := by omega
  have hw1 : IntKind.i64.wrap ((i : Int) + (m : Int)) = (i : Int) + (m : Int) := by rw [IntKind.wrap_i64]; omega
  have hw2 : IntKind.i64.wrap ((i : Int) + (m : Int) + ((n - j : Nat) : Int)) = (i : Int) + (m : Int) + ((n - j : Nat) : Int) := by rw [IntKind.wrap_i64]; omega
  have q10 : ¬ ((j : Int) = (n : Int)) := by omega
  have q11 : j ≤ n := by omega
  have q12 : i ≤ n := by omega
  have q13 : ¬ (c = j) := by omega
  have q14 : (0 : Int) ≤ (i : Int) + (m : Int) + ((n - j : Nat) : Int) := by omega
  have q15 : ((i : Int) + (m : Int) + ((n - j : Nat) : Int)).toNat = i + m + (n - j) := by omega
  have q16 : (0 : Int) ≤ (i : Int) + (m : Int) := by omega
  have q17 : ((i : Int) + (m : Int)).toNat = i + m := by omega
  have hxl : xs.length = n * 3 := by rw [← hx]; simp; omega
  have htl : (xs.drop (j * 3)).length = (n - j) * 3 := by rw [List.length_drop, hxl]; omega
  have q18 : (i : Int) + (m : Int) ≤ (j : Int) := by omega
  have q19 : ¬ ((c : Int) < (i : Int) + (m : Int) + ((n - j : Nat) : Int)) := by omega
  have q20 : ¬ (c = i + m) := by omega
  have q21 : (i : Int) + (m : Int) ≤ (i : Int) + (m : Int) + ((n - j : Nat) : Int) := by omega
  have q22 : (i : Int) + (m : Int) + ((n - j : Nat) : Int) ≤ (n : Int) := by omega
  go_enter Tryd.func26, Tryd.ntmps26
  go_wp2
  go_quiet (fail)
  generalize hWq : w.drewN nq = W0
  have E0 : W0.heap = w.heap ∧ W0.os = w.os ∧ W0.tape = w.tape ∧ W0.output = w.output := by rw [← hWq]; exact ⟨rfl, rfl, rfl, rfl⟩
  have HE := Lib.hid E0
  clear hWq E0
  have g0 : Blk W0 g cur := hg.eq HE.out.1
  have v0 : Blk W0 vb vcur := hvb.eq HE.out.1
  have cpA : ∀ ty dc, (Builtin.copy_ #[46, 46] ty #[.slice (some ⟨g, i * 3, none⟩) (i + m + (n - j) - i) dc, .slice (some ⟨vb, 0, none⟩) m vc]).run Tryd.prog W0 = .ok (goInt m) (W0.setRow g (splice cur (i * 3) news)) := fun ty dc =>
    run_copyR _ 46 ty 61 Tryd.underlying46 hi0 g (i * 3) _ dc _ g0 ⟨vb, 0, none⟩ m vc news m (by simp only [Nat.min_def]; split <;> omega) (by rw [hz1]; exact hvl) (fun j u hj => by have := row_reads v0 0 (m * 3) j u; rw [List.drop_zero, hvn] at this; exact this hj) (by rw [hvl]; omega) h1
  have g1 : Blk (W0.setRow g (splice cur (i * 3) news)).drew g (splice cur (i * 3) news) := Blk.set g0 _
  have cpB : ∀ ty dc sc, (Builtin.copy_ #[46, 46] ty #[.slice (some ⟨g, (i + m) * 3, none⟩) (n - j) dc, .slice (some ⟨g, j * 3, none⟩) (n - j) sc]).run Tryd.prog ((W0.setRow g (splice cur (i * 3) news)).drew) = .ok (goInt (n - j : Nat)) (((W0.setRow g (splice cur (i * 3) news)).drew).setRow g (splice (splice cur (i * 3) news) ((i + m) * 3) (xs.drop (j * 3)))) := fun ty dc sc =>
    run_copyR _ 46 ty 61 Tryd.underlying46 hi0 g ((i + m) * 3) _ dc _ g1 ⟨g, j * 3, none⟩ (n - j) sc (xs.drop (j * 3)) (n - j) (by simp only [Nat.min_def]; split <;> omega) (by rw [hz1]; exact htl) (by rw [← hx, ← splice_drop (cur := cur) (d := i * 3) (vs := news) (by rw [hvl]; omega) (by rw [hvl]; omega)]; exact row_reads g1 _ _) (by rw [htl]; rw [splice_size (by rw [hvl]; omega)]; omega) (fun u hu => hx1 u (List.mem_of_mem_drop hu))
  have g2 : Blk (((W0.setRow g (splice cur (i * 3) news)).drew).setRow g (splice (splice cur (i * 3) news) ((i + m) * 3) (xs.drop (j * 3)))) g (splice (splice cur (i * 3) news) ((i + m) * 3) (xs.drop (j * 3))) := Blk.set g1 _
  have s2 : (splice (splice cur (i * 3) news) ((i + m) * 3) (xs.drop (j * 3))).size = cur.size := by rw [splice_size (by rw [htl]; rw [splice_size (by rw [hvl]; omega)]; omega)]; exact splice_size (by rw [hvl]; omega)
  go_wp2_with (at_builtin; refine wpList_copy_runI _ rfl _ _ 46 46 rfl _ _ rfl rfl (cpA _ _) ?_)
  by_cases hct : i + m = j
  · have q23 : n - (i + m + (n - j)) = 0 := by omega
    have hcl : ∀ ty d dc, (Builtin.clear_ #[46] ty #[.slice d (n - (i + m + (n - j))) dc]).run Tryd.prog (((W0.setRow g (splice cur (i * 3) news)).drew).setRow g (splice (splice cur (i * 3) news) ((i + m) * 3) (xs.drop (j * 3)))) = .ok (.tuple #[]) (((W0.setRow g (splice cur (i * 3) news)).drew).setRow g (splice (splice cur (i * 3) news) ((i + m) * 3) (xs.drop (j * 3)))) := fun ty d dc => by rw [q23]; exact clear_none _ ty d dc
    have HCT := Lib.hid hct
    clear hct q23
    go_region_law_o (refine step_copy_runI rfl _ _ 46 46 rfl _ _ (by simp [Act.eval, Act.put]) (by simp [Act.eval, Act.put]) (cpB _ _ _) ?_)
    go_wp2
    all_goals
      go_ret
      show RepPost base g i j n m xs news w _ (.returned (.slice (some ⟨g, 0, none⟩) (i + m + (n - j)) _))
      refine fin_own (by exact HE.out.2.1) (by exact HE.out.2.2.1) (by exact HE.out.2.2.2) (by simp [HE.out.1]) (fun k _ hk => ?_) g2 hbg (by omega) (by omega) (by rw [s2]; omega) ?_ rfl (.inl rfl)
      · rw [setRow_other _ _ _ _ hk]; show (W0.setRow g _).heap[k]? = _; rw [setRow_other _ _ _ _ hk, HE.out.1]
      · rw [splice_up_take (by rw [hvl]; omega) (by rw [htl]; omega) (by omega), take_of hx q12]
  · have q23 : ¬ (c = (i + m + (n - j))) := by omega
    have hcl : ∀ ty dc, (Builtin.clear_ #[46] ty #[.slice (some ⟨g, (i + m + (n - j)) * 3, none⟩) (n - (i + m + (n - j))) dc]).run Tryd.prog (((W0.setRow g (splice cur (i * 3) news)).drew).setRow g (splice (splice cur (i * 3) news) ((i + m) * 3) (xs.drop (j * 3)))) = .ok (.tuple #[]) ((((W0.setRow g (splice cur (i * 3) news)).drew).setRow g (splice (splice cur (i * 3) news) ((i + m) * 3) (xs.drop (j * 3)))).setRow g (splice (splice (splice cur (i * 3) news) ((i + m) * 3) (xs.drop (j * 3))) ((i + m + (n - j)) * 3) (zc (n - (i + m + (n - j)))))) := fun ty dc => clear_blk g2 ty _ _ dc (by rw [s2]; omega)
    go_region_law_o (refine step_copy_runI rfl _ _ 46 46 rfl _ _ (by simp [Act.eval, Act.put]) (by simp [Act.eval, Act.put]) (cpB _ _ _) ?_)
    go_wp2
    go_ret
    show RepPost base g i j n m xs news w _ (.returned (.slice (some ⟨g, 0, none⟩) (i + m + (n - j)) c))
    refine fin_own (by exact HE.out.2.1) (by exact HE.out.2.2.1) (by exact HE.out.2.2.2) (by simp [HE.out.1]) (fun k _ hk => ?_) (Blk.set g2 _) hbg (by omega) hcm (by rw [splice_size (by rw [zc_len, s2]; omega), s2]; exact hcs) ?_ rfl (.inl rfl)
    · rw [setRow_other _ _ _ _ hk, setRow_other _ _ _ _ hk]; show (W0.setRow g _).heap[k]? = _; rw [setRow_other _ _ _ _ hk, HE.out.1]
    · rw [splice_low (Nat.le_refl _) (by rw [s2]; omega), splice_up_take (by rw [hvl]; omega) (by rw [htl]; omega) (by omega), take_of hx q12]

set_option maxHeartbeats 4000000 in
set_option maxRecDepth 100000 in
/-- ahead of some, none -/
theorem replace_mid_none (base g n c i j : Nat) (cur : Array Value) (xs : List Value) (w : World) (hg : Blk w g cur) (hbg : base ≤ g) (hnc : n ≤ c) (hcm : c ≤ maxLen) (hcs : cur.size = c * 3) (hx : cur.toList.take (n * 3) = xs)
    (hx1 : ∀ u ∈ xs, u.oneCell' = true) (hij : i < j) (hj : j < n) (hn : n ≤ 1000000) :
    Calls Tryd.prog 26 #[.slice (some ⟨g, 0, none⟩) n c, .int .i64 i, .int .i64 j, .slice none 0 0] w fun e w' => RepPost base g i j n 0 xs [] w w' e := by
  obtain ⟨i0, hi0, hz0, hz1, hz2⟩ := info_parts infoRn
  have mixed : Tryd.prog.follows .mixedOrders = true := by kernel_rfl
  have hc63 : c ≤ 9223372036854775807 := by unfold maxLen at hcm; omega
  have q2 : ¬ ((i : Int) = (j : Int)) := by omega
  have p1 : (i : Int) ≤ (j : Int) := by omega
  have hij' : i ≤ j := by omega
  have hb4 : ¬ (c = i) := by omega
  have hw1 : IntKind.i64.wrap ((i : Int) + ((n - j : Nat) : Int)) = (i : Int) + ((n - j : Nat) : Int) := by rw [IntKind.wrap_i64]; omega
  have q10 : ¬ ((j : Int) = (n : Int)) := by omega
  have q11 : j ≤ n := by omega
  have q12 : i ≤ n := by omega
  have q13 : ¬ (c = j) := by omega
  have q14 : (0 : Int) ≤ (i : Int) + ((n - j : Nat) : Int) := by omega
  have q15 : ((i : Int) + ((n - j : Nat) : Int)).toNat = i + (n - j) := by omega
  have q19 : ¬ ((c : Int) < (i : Int) + ((n - j : Nat) : Int)) := by omega
  have q22 : (i : Int) + ((n - j : Nat) : Int) ≤ (n : Int) := by omega
  have q23 : ¬ (c = i + (n - j)) := by omega
  have q24 : (i : Int) ≤ (i : Int) + ((n - j : Nat) : Int) := by omega
  have hwi : IntKind.i64.wrap (i : Int) = (i : Int) := by rw [IntKind.wrap_i64]; omega
  have hxl : xs.length = n * 3 := by rw [← hx]; simp; omega
  have htl : (xs.drop (j * 3)).length = (n - j) * 3 := by rw [List.length_drop, hxl]; omega
  go_enter Tryd.func26, Tryd.ntmps26
  go_wp2
  go_quiet (fail)
  generalize hWq : w.drewN nq = W0
  have E0 : W0.heap = w.heap ∧ W0.os = w.os ∧ W0.tape = w.tape ∧ W0.output = w.output := by rw [← hWq]; exact ⟨rfl, rfl, rfl, rfl⟩
  have HE := Lib.hid E0
  clear hWq E0
  have g0 : Blk W0 g cur := hg.eq HE.out.1
  have cpA : ∀ ty dl, (Builtin.copy_ #[46, 46] ty #[.slice (some ⟨g, i * 3, none⟩) dl (c - i), .slice none 0 0]).run Tryd.prog W0 = .ok (goInt 0) W0 := fun ty dl => run_copyN W0 46 ty 61 Tryd.underlying46 hi0 _ _ _ _
  go_wp2_with (at_builtin; refine wpList_copy_runI _ rfl _ _ 46 46 rfl _ _ rfl rfl (cpA _ _) ?_)
  have g1 : Blk W0.drew g cur := g0
  have cpB : ∀ ty dc sc, (Builtin.copy_ #[46, 46] ty #[.slice (some ⟨g, i * 3, none⟩) (n - j) dc, .slice (some ⟨g, j * 3, none⟩) (n - j) sc]).run Tryd.prog W0.drew = .ok (goInt (n - j : Nat)) (W0.drew.setRow g (splice cur (i * 3) (xs.drop (j * 3)))) := fun ty dc sc =>
    run_copyR _ 46 ty 61 Tryd.underlying46 hi0 g (i * 3) _ dc _ g1 ⟨g, j * 3, none⟩ (n - j) sc (xs.drop (j * 3)) (n - j) (by simp only [Nat.min_def]; split <;> omega) (by rw [hz1]; exact htl) (by rw [← hx]; exact row_reads g1 _ _) (by rw [htl]; omega) (fun u hu => hx1 u (List.mem_of_mem_drop hu))
  have g2 : Blk (W0.drew.setRow g (splice cur (i * 3) (xs.drop (j * 3)))) g (splice cur (i * 3) (xs.drop (j * 3))) := Blk.set g1 _
  have s2 : (splice cur (i * 3) (xs.drop (j * 3))).size = cur.size := by rw [splice_size (by rw [htl]; omega)]
  have hcl : ∀ ty dc, (Builtin.clear_ #[46] ty #[.slice (some ⟨g, (i + (n - j)) * 3, none⟩) (n - (i + (n - j))) dc]).run Tryd.prog (W0.drew.setRow g (splice cur (i * 3) (xs.drop (j * 3)))) = .ok (.tuple #[]) ((W0.drew.setRow g (splice cur (i * 3) (xs.drop (j * 3)))).setRow g (splice (splice cur (i * 3) (xs.drop (j * 3))) ((i + (n - j)) * 3) (zc (n - (i + (n - j)))))) := fun ty dc => clear_blk g2 ty _ _ dc (by rw [s2]; omega)
  go_region_law_o (refine step_copy_runI rfl _ _ 46 46 rfl _ _ (by simp [Act.eval, Act.put]) (by simp [Act.eval, Act.put]) (cpB _ _ _) ?_)
  go_wp2
  go_ret
  show RepPost base g i j n 0 xs [] w _ (.returned (.slice (some ⟨g, 0, none⟩) (i + (n - j)) c))
  refine fin_own (by exact HE.out.2.1) (by exact HE.out.2.2.1) (by exact HE.out.2.2.2) (by simp [HE.out.1]) (fun k _ hk => ?_) (Blk.set g2 _) hbg (by omega) hcm (by rw [splice_size (by rw [zc_len, s2]; omega), s2]; exact hcs) ?_ (by omega) (.inl rfl)
  · rw [setRow_other _ _ _ _ hk, setRow_other _ _ _ _ hk]; show W0.heap[k]? = _; rw [HE.out.1]
  · have e : ((cur.toList.take ((i + (n - j)) * 3)).length) ≤ i * 3 + (xs.drop (j * 3)).length := by rw [htl]; simp; omega
    rw [Nat.add_zero, splice_low (Nat.le_refl _) (by rw [s2]; omega), splice_take (by omega) (by rw [htl]; omega), List.drop_of_length_le e, List.append_nil, List.append_nil, take_of hx q12]

set_option maxHeartbeats 4000000 in
set_option maxRecDepth 100000 in
/-- ahead of some, more than there were, in place -/
theorem replace_mid_more (base g n c i j vb m vc : Nat) (cur vcur : Array Value) (xs news : List Value) (w : World) (hg : Blk w g cur) (hbg : base ≤ g) (hnc : n ≤ c) (hcm : c ≤ maxLen) (hcs : cur.size = c * 3) (hx : cur.toList.take (n * 3) = xs)
    (hx1 : ∀ u ∈ xs, u.oneCell' = true) (hvb : Blk w vb vcur) (hne : vb ≠ g) (hm : 0 < m) (hvl : news.length = m * 3) (hvn : vcur.toList.take (m * 3) = news) (h1 : ∀ u ∈ news, u.oneCell' = true) (hij : i < j) (hj : j < n) (hmore : j < i + m) (hroom : i + m + (n - j) ≤ c) (hn : n ≤ 1000000) (hm2 : m ≤ 1000000) :
    Calls Tryd.prog 26 #[.slice (some ⟨g, 0, none⟩) n c, .int .i64 i, .int .i64 j, .slice (some ⟨vb, 0, none⟩) m vc] w fun e w' => RepPost base g i j n m xs news w w' e := by
  obtain ⟨i0, hi0, hz0, hz1, hz2⟩ := info_parts infoRn
  have mixed : Tryd.prog.follows .mixedOrders = true := by kernel_rfl
  have hc63 : c ≤ 9223372036854775807 := by unfold maxLen at hcm; omega
  have q2 : ¬ ((i : Int) = (j : Int)) := by omega
  have p1 : (i : Int) ≤ (j : Int) := by omega
  have hij' : i ≤ j := by omega
  have hb4 : ¬ (c = i) := by omega
  have hw1 : IntKind.i64.wrap ((i : Int) + (m : Int)) = (i : Int) + (m : Int) := by rw [IntKind.wrap_i64]; omega
  have hw2 : IntKind.i64.wrap ((i : Int) + (m : Int) + ((n - j : Nat) : Int)) = (i : Int) + (m : Int) + ((n - j : Nat) : Int) := by rw [IntKind.wrap_i64]; omega
  have q10 : ¬ ((j : Int) = (n : Int)) := by omega
  have q11 : j ≤ n := by omega
  have q12 : i ≤ n := by omega
  have q13 : ¬ (c = j) := by omega
  have q14 : (0 : Int) ≤ (i : Int) + (m : Int) + ((n - j : Nat) : Int) := by omega
  have q15 : ((i : Int) + (m : Int) + ((n - j : Nat) : Int)).toNat = i + m + (n - j) := by omega
  have q16 : (0 : Int) ≤ (i : Int) + (m : Int) := by omega
  have q17 : ((i : Int) + (m : Int)).toNat = i + m := by omega
  have hxl : xs.length = n * 3 := by rw [← hx]; simp; omega
  have htl : (xs.drop (j * 3)).length = (n - j) * 3 := by rw [List.length_drop, hxl]; omega
  have q18 : ¬ ((i : Int) + (m : Int) ≤ (j : Int)) := by omega
  have q19 : ¬ ((c : Int) < (i : Int) + (m : Int) + ((n - j : Nat) : Int)) := by omega
  have q19' : (i : Int) + (m : Int) + ((n - j : Nat) : Int) ≤ (c : Int) := by omega
  have q20 : ¬ (c = i + m) := by omega
  have q21 : (i : Int) + (m : Int) ≤ (i : Int) + (m : Int) + ((n - j : Nat) : Int) := by omega
  have hvs : 0 < vcur.size := by
    have : (vcur.toList.take (m * 3)).length = m * 3 := by rw [hvn]; exact hvl
    simp at this; omega
  have htl2 : (i + m) * 3 + (xs.drop (j * 3)).length ≤ cur.size := by rw [htl]; omega
  go_enter Tryd.func26, Tryd.ntmps26
  go_wp2
  go_quiet (fail)
  generalize hWq : w.drewN nq = W0
  have E0 : W0.heap = w.heap ∧ W0.os = w.os ∧ W0.tape = w.tape ∧ W0.output = w.output := by rw [← hWq]; exact ⟨rfl, rfl, rfl, rfl⟩
  have HE := Lib.hid E0
  clear hWq E0
  have g0 : Blk W0 g cur := hg.eq HE.out.1
  have v0 : Blk W0 vb vcur := hvb.eq HE.out.1
  have hov : ∀ lb cb lc cc, (callFunc 45 #[.slice (some ⟨g, (i + m) * 3, none⟩) lb cb, .slice (some ⟨vb, 0, none⟩) lc cc]).run Tryd.prog W0 = .ok (.value (.bool false)) W0 := fun lb cb lc cc => overlaps_no W0 g vb ((i + m) * 3) 0 lb cb lc cc cur vcur g0 v0 (Ne.symm hne) hvs
  have g1 : Blk W0.drew g cur := g0
  have cpB : ∀ ty dc sc, (Builtin.copy_ #[46, 46] ty #[.slice (some ⟨g, (i + m) * 3, none⟩) (n - j) dc, .slice (some ⟨g, j * 3, none⟩) (n - j) sc]).run Tryd.prog W0.drew = .ok (goInt (n - j : Nat)) (W0.drew.setRow g (splice cur ((i + m) * 3) (xs.drop (j * 3)))) := fun ty dc sc =>
    run_copyR _ 46 ty 61 Tryd.underlying46 hi0 g ((i + m) * 3) _ dc _ g1 ⟨g, j * 3, none⟩ (n - j) sc (xs.drop (j * 3)) (n - j) (by simp only [Nat.min_def]; split <;> omega) (by rw [hz1]; exact htl) (by rw [← hx]; exact row_reads g1 _ _) (by rw [htl]; omega) (fun u hu => hx1 u (List.mem_of_mem_drop hu))
  have g2 : Blk (W0.drew.setRow g (splice cur ((i + m) * 3) (xs.drop (j * 3)))) g (splice cur ((i + m) * 3) (xs.drop (j * 3))) := Blk.set g1 _
  have v2 : Blk (W0.drew.setRow g (splice cur ((i + m) * 3) (xs.drop (j * 3)))) vb vcur := Blk.other (show Blk W0.drew vb vcur from v0) hne
  have s2 : (splice cur ((i + m) * 3) (xs.drop (j * 3))).size = cur.size := splice_size htl2
  have cpA : ∀ ty dc, (Builtin.copy_ #[46, 46] ty #[.slice (some ⟨g, i * 3, none⟩) (i + m + (n - j) - i) dc, .slice (some ⟨vb, 0, none⟩) m vc]).run Tryd.prog (W0.drew.setRow g (splice cur ((i + m) * 3) (xs.drop (j * 3)))) = .ok (goInt m) ((W0.drew.setRow g (splice cur ((i + m) * 3) (xs.drop (j * 3)))).setRow g (splice (splice cur ((i + m) * 3) (xs.drop (j * 3))) (i * 3) news)) := fun ty dc =>
    run_copyR _ 46 ty 61 Tryd.underlying46 hi0 g (i * 3) _ dc _ g2 ⟨vb, 0, none⟩ m vc news m (by simp only [Nat.min_def]; split <;> omega) (by rw [hz1]; exact hvl) (fun j u hj => by have := row_reads v2 0 (m * 3) j u; rw [List.drop_zero, hvn] at this; exact this hj) (by rw [hvl, s2]; omega) h1
  go_wp2_with (simp only [hov])
  go_region_law_o (refine step_copy_runI rfl _ _ 46 46 rfl _ _ (by simp [Act.eval, Act.put]) (by simp [Act.eval, Act.put]) (cpB _ _ _) ?_)
  go_wp2_with (at_builtin; refine wpList_copy_runI _ rfl _ _ 46 46 rfl _ _ rfl rfl (cpA _ _) ?_)
  go_ret
  show RepPost base g i j n m xs news w _ (.returned (.slice (some ⟨g, 0, none⟩) (i + m + (n - j)) c))
  refine fin_own (by exact HE.out.2.1) (by exact HE.out.2.2.1) (by exact HE.out.2.2.2) (by simp [HE.out.1]) (fun k _ hk => ?_) (Blk.set g2 _) hbg (by omega) hcm (by rw [splice_size (by rw [hvl, s2]; omega), s2]; exact hcs) ?_ rfl (.inl rfl)
  · rw [setRow_other _ _ _ _ hk, setRow_other _ _ _ _ hk]; show W0.heap[k]? = _; rw [HE.out.1]
  · rw [splice2_take (by rw [hvl]; omega) (by rw [htl]; omega) (by omega), take_of hx q12]

set_option maxHeartbeats 4000000 in
set_option maxRecDepth 100000 in
/-- ahead of some, no room -/
theorem replace_grow (base g n c i j vb m vc : Nat) (cur vcur : Array Value) (xs news : List Value) (w : World) (hg : Blk w g cur) (hbg : base ≤ g) (hnc : n ≤ c) (hcm : c ≤ maxLen) (hcs : cur.size = c * 3) (hx : cur.toList.take (n * 3) = xs)
    (hx1 : ∀ u ∈ xs, u.oneCell' = true) (hvb : Blk w vb vcur) (_hne : vb ≠ g) (hm : 0 < m) (hvl : news.length = m * 3) (hvn : vcur.toList.take (m * 3) = news) (h1 : ∀ u ∈ news, u.oneCell' = true) (hij : i < j) (hj : j < n) (hroom : c < i + m + (n - j)) (hn : n ≤ 1000000) (hm2 : m ≤ 1000000) (hb : base ≤ w.heap.size) :
    Calls Tryd.prog 26 #[.slice (some ⟨g, 0, none⟩) n c, .int .i64 i, .int .i64 j, .slice (some ⟨vb, 0, none⟩) m vc] w fun e w' => RepPost base g i j n m xs news w w' e := by
  obtain ⟨i0, hi0, hz0, hz1, hz2⟩ := info_parts infoRn
  have mixed : Tryd.prog.follows .mixedOrders = true := by kernel_rfl
  have hc63 : c ≤ 9223372036854775807 := by unfold maxLen at hcm; omega
  have q2 : ¬ ((i : Int) = (j : Int)) := by omega
  have p1 : (i : Int) ≤ (j : Int) := by omega
  have hij' : i ≤ j := by omega
  have hb4 : ¬ (c = i) := by omega
  have hw1 : IntKind.i64.wrap ((i : Int) + (m : Int)) = (i : Int) + (m : Int) := by rw [IntKind.wrap_i64]; omega
  have hw2 : IntKind.i64.wrap ((i : Int) + (m : Int) + ((n - j : Nat) : Int)) = (i : Int) + (m : Int) + ((n - j : Nat) : Int) := by rw [IntKind.wrap_i64]; omega
  have q10 : ¬ ((j : Int) = (n : Int)) := by omega
  have q11 : j ≤ n := by omega
  have q12 : i ≤ n := by omega
  have q13 : ¬ (c = j) := by omega
  have q14 : (0 : Int) ≤ (i : Int) + (m : Int) + ((n - j : Nat) : Int) := by omega
  have q15 : ((i : Int) + (m : Int) + ((n - j : Nat) : Int)).toNat = i + m + (n - j) := by omega
  have q16 : (0 : Int) ≤ (i : Int) + (m : Int) := by omega
  have q17 : ((i : Int) + (m : Int)).toNat = i + m := by omega
  have hxl : xs.length = n * 3 := by rw [← hx]; simp; omega
  have htl : (xs.drop (j * 3)).length = (n - j) * 3 := by rw [List.length_drop, hxl]; omega
  have q19 : (c : Int) < (i : Int) + (m : Int) + ((n - j : Nat) : Int) := by omega
  have q21 : (i : Int) + (m : Int) ≤ (i : Int) + (m : Int) + ((n - j : Nat) : Int) := by omega
  have q22 : (i : Int) ≤ (i : Int) + (m : Int) + ((n - j : Nat) : Int) := by omega
  have hw3 : IntKind.i64.wrap ((i : Int) + (m : Int) + ((n - j : Nat) : Int) - (i : Int)) = (i : Int) + (m : Int) + ((n - j : Nat) : Int) - (i : Int) := by rw [IntKind.wrap_i64]; omega
  have _ := hbg
  go_enter Tryd.func26, Tryd.ntmps26
  go_wp2
  go_quiet (fail)
  generalize hWq : w.drewN nq = W0
  have E0 : W0.heap = w.heap ∧ W0.os = w.os ∧ W0.tape = w.tape ∧ W0.output = w.output := by rw [← hWq]; exact ⟨rfl, rfl, rfl, rfl⟩
  have HE := Lib.hid E0
  clear hWq E0
  have g0 : Blk W0 g cur := hg.eq HE.out.1
  have v0 : Blk W0 vb vcur := hvb.eq HE.out.1
  obtain ⟨row, G, hG, hGm, hrs, hrt, hrun⟩ := grown_row W0 g i c (i + m + (n - j)) cur g0 (by omega) (by omega) hroom (by omega)
  have hG63 : G ≤ 9223372036854775807 := by unfold maxLen at hGm; omega
  have hGi : ¬ (G = i) := by omega
  have hGim : ¬ (G = i + m) := by omega
  have hgs := g0.lt
  have hvs := v0.lt
  obtain ⟨W1, hW1⟩ : ∃ W1, W1 = W0.drew.alloc (.cells row 61) := ⟨_, rfl⟩
  rw [← hW1] at hrun
  have hrun' : ∀ ty, (Builtin.append_ #[46, 3] ty #[.slice (some ⟨g, 0, none⟩) i c, .int .i64 ((i : Int) + (m : Int) + ((n - j : Nat) : Int) - (i : Int))]).run Tryd.prog W0 = .ok (.slice (some ⟨W0.heap.size, 0, none⟩) (i + m + (n - j)) G) W1 := fun ty => by
    have := hrun ty
    rwa [Int.natCast_add, Int.natCast_add] at this
  have N1 : Blk W1 W0.heap.size row := by rw [hW1]; exact heap_alloc_new W0.drew _
  have G1 : Blk W1 g cur := by rw [hW1]; exact (heap_alloc_old W0.drew _ hgs).trans g0
  have V1 : Blk W1 vb vcur := by rw [hW1]; exact (heap_alloc_old W0.drew _ hvs).trans v0
  have cpA : ∀ ty dc, (Builtin.copy_ #[46, 46] ty #[.slice (some ⟨W0.heap.size, i * 3, none⟩) (i + m + (n - j) - i) dc, .slice (some ⟨vb, 0, none⟩) m vc]).run Tryd.prog W1 = .ok (goInt m) (W1.setRow W0.heap.size (splice row (i * 3) news)) := fun ty dc =>
    run_copyR _ 46 ty 61 Tryd.underlying46 hi0 W0.heap.size (i * 3) _ dc _ N1 ⟨vb, 0, none⟩ m vc news m (by simp only [Nat.min_def]; split <;> omega) (by rw [hz1]; exact hvl) (fun j u hj => by have := row_reads V1 0 (m * 3) j u; rw [List.drop_zero, hvn] at this; exact this hj) (by rw [hvl]; omega) h1
  have N2 : Blk (W1.setRow W0.heap.size (splice row (i * 3) news)).drew W0.heap.size (splice row (i * 3) news) := Blk.set N1 _
  have G2 : Blk (W1.setRow W0.heap.size (splice row (i * 3) news)).drew g cur := Blk.other G1 (by omega)
  have cpB : ∀ ty dc sc, (Builtin.copy_ #[46, 46] ty #[.slice (some ⟨W0.heap.size, (i + m) * 3, none⟩) (n - j) dc, .slice (some ⟨g, j * 3, none⟩) (n - j) sc]).run Tryd.prog (W1.setRow W0.heap.size (splice row (i * 3) news)).drew = .ok (goInt (n - j : Nat)) ((W1.setRow W0.heap.size (splice row (i * 3) news)).drew.setRow W0.heap.size (splice (splice row (i * 3) news) ((i + m) * 3) (xs.drop (j * 3)))) := fun ty dc sc =>
    run_copyR _ 46 ty 61 Tryd.underlying46 hi0 W0.heap.size ((i + m) * 3) _ dc _ N2 ⟨g, j * 3, none⟩ (n - j) sc (xs.drop (j * 3)) (n - j) (by simp only [Nat.min_def]; split <;> omega) (by rw [hz1]; exact htl) (by rw [← hx]; exact row_reads G2 _ _) (by rw [splice_size (by rw [hvl]; omega), htl]; omega) (fun u hu => hx1 u (List.mem_of_mem_drop hu))
  have HW := Lib.hid hW1
  clear hW1 hrun
  go_wp2_with (at_builtin; first | refine Lib.wpList_append_run _ rfl _ _ _ _ rfl _ _ rfl rfl _ _ (hrun' _) ?_ | refine wpList_copy_runI _ rfl _ _ 46 46 rfl _ _ rfl rfl (cpA _ _) ?_)
  go_region_law_o (refine step_copy_runI rfl _ _ 46 46 rfl _ _ (by simp [Act.eval, Act.put]) (by simp [Act.eval, Act.put]) (cpB _ _ _) ?_)
  go_wp2
  go_ret
  have hW1 := HW.out
  have e0 := HE.out.1
  have e1 : W0.heap.size = w.heap.size := by rw [e0]
  show RepPost base g i j n m xs news w _ (.returned (.slice (some ⟨W0.heap.size, 0, none⟩) (i + m + (n - j)) G))
  refine fin_own (by rw [hW1]; exact HE.out.2.1) (by rw [hW1]; exact HE.out.2.2.1) (by rw [hW1]; exact HE.out.2.2.2) (by rw [hW1]; simp [World.setRow, e0]) (fun k hk _ => ?_) (Blk.set N2 _) (by omega) (by omega) hGm ?_ ?_ rfl (.inr (by omega))
  · rw [setRow_other _ _ _ _ (by omega)]
    show (W1.setRow _ _).heap[k]? = _
    rw [setRow_other _ _ _ _ (by omega), hW1, ← e0]
    exact heap_alloc_old W0.drew _ (by show k < W0.heap.size; omega)
  · rw [splice_size (by rw [splice_size (by rw [hvl]; omega), htl]; omega), splice_size (by rw [hvl]; omega)]; exact hrs
  · rw [splice_up_take (by rw [hvl]; omega) (by rw [htl]; omega) (by omega), hrt, take_of hx q12]

set_option maxHeartbeats 4000000 in
set_option maxRecDepth 100000 in
/-- slices.Replace of a row of the call's own by cells of another block -/
theorem replace_any (base n c i j m mc : Nat) (A B : Option Addr) (xs news : List Value) (w : World) (hown : w.ownsRow base 61 3 (.slice A n c) n xs) (hsrc : w.ownsRow 0 61 3 (.slice B m mc) m news) (hne : ∀ b, (Value.slice B m mc).ownBlock = some b → (Value.slice A n c).ownBlock ≠ some b)
    (hx1 : ∀ u ∈ xs, u.oneCell' = true) (h1 : ∀ u ∈ news, u.oneCell' = true) (hij : i ≤ j) (hj : j ≤ n) (hsome : 0 < m ∨ i < j) (hn : n ≤ 1000000) (hm2 : m ≤ 1000000) (hb : base ≤ w.heap.size) (hmn : B = Option.none ↔ m = 0) :
    Calls Tryd.prog 26 #[.slice A n c, .int .i64 i, .int .i64 j, .slice B m mc] w fun e w' =>
      ∃ v', e = .returned v' ∧ w'.ownsRow base 61 3 v' (i + m + (n - j)) (xs.take (i * 3) ++ news ++ xs.drop (j * 3)) ∧ w.grownBy w' (Value.slice A n c).ownBlock ∧ Kin w (Value.slice A n c).ownBlock v' := by
  have hvl : news.length = m * 3 := hsrc.1
  cases A with
  | none =>
    have h0 : n = 0 ∧ c = 0 := by
      rcases hown.2 with ⟨e, _⟩ | ⟨_, _, _, e, _⟩
      · simp at e; exact e
      · simp at e
    obtain ⟨rfl, rfl⟩ := h0
    have hi0 : i = 0 := by omega
    have hj0 : j = 0 := by omega
    subst hi0; subst hj0
    have hx0 : xs = [] := List.eq_nil_of_length_eq_zero (by simpa using hown.1)
    subst hx0
    cases B with
    | none => have := hmn.1 rfl; omega
    | some b =>
      obtain ⟨vb, vo, vs⟩ := b
      obtain ⟨rfl, rfl⟩ : vo = 0 ∧ vs = Option.none := by
        rcases hsrc.2 with ⟨e, _⟩ | ⟨_, _, _, e, _⟩
        · simp at e
        · simp at e; exact ⟨e.1.2.1, e.1.2.2⟩
      obtain ⟨vcur, hv, -, -, -, -, hvn⟩ := own_row hsrc
      have hi := insert_end base 0 vb m mc (.slice Option.none 0 0) 0 Option.none rfl vcur [] news w hown (Nat.le_refl _) hb hv (by omega) hvl hvn h1 (by omega) hm2
      go_enter Tryd.func26, Tryd.ntmps26
      go_wp2_with (go_at_call 44; refine hi.mono ?_; rintro e w1 ⟨v', rfl, k1, k2, k3⟩; have K1 := Lib.hid k1; have K2 := Lib.hid k2; have K3 := Lib.hid k3; clear k1 k2 k3)
      go_ret
      exact ⟨v', rfl, by simpa using K1.out, K2.out, K3.out⟩
  | some a =>
    obtain ⟨g, go, gs⟩ := a
    obtain ⟨rfl, rfl⟩ : go = 0 ∧ gs = Option.none := by
      rcases hown.2 with ⟨e, _⟩ | ⟨_, _, _, e, _⟩
      · simp at e
      · simp at e; exact ⟨e.1.2.1, e.1.2.2⟩
    obtain ⟨cur, hg, hbg, hnc, hcm, hcs, hx⟩ := own_row hown
    show Calls Tryd.prog 26 _ w fun e w' => RepPost base g i j n m xs news w w' e
    cases B with
    | none =>
      have hm0 := hmn.1 rfl
      subst hm0
      have hmc : mc = 0 := by
        rcases hsrc.2 with ⟨e, _⟩ | ⟨_, _, _, e, _⟩
        · simp at e; exact e
        · simp at e
      subst hmc
      have hnw : news = [] := List.eq_nil_of_length_eq_zero (by simpa using hvl)
      subst hnw
      by_cases hjn : j = n
      · exact replace_end_none base g n c i j cur xs w hg hbg hnc hcm hcs hx (by omega) hjn hn
      · exact replace_mid_none base g n c i j cur xs w hg hbg hnc hcm hcs hx hx1 (by omega) (by omega) hn
    | some b =>
      obtain ⟨vb, vo, vs⟩ := b
      obtain ⟨rfl, rfl⟩ : vo = 0 ∧ vs = Option.none := by
        rcases hsrc.2 with ⟨e, _⟩ | ⟨_, _, _, e, _⟩
        · simp at e
        · simp at e; exact ⟨e.1.2.1, e.1.2.2⟩
      obtain ⟨vcur, hv, -, -, -, hvs, hvn⟩ := own_row hsrc
      have hm : 0 < m := by
        rcases Nat.eq_zero_or_pos m with h | h
        · have := hmn.2 h; simp at this
        · exact h
      have hne' : vb ≠ g := fun e => hne vb (by simp [Value.ownBlock]) (by simp [Value.ownBlock, e])
      have hvsz : m * 3 ≤ vcur.size := by
        have : (vcur.toList.take (m * 3)).length = m * 3 := by rw [hvn]; exact hvl
        simp at this; omega
      by_cases hij0 : i = j
      · subst hij0
        have ins : Calls Tryd.prog 44 #[.slice (some ⟨g, 0, Option.none⟩) n c, .int .i64 i, .slice (some ⟨vb, 0, Option.none⟩) m mc] w fun e w' => RepPost base g i i n m xs news w w' e := by
          by_cases hin : i = n
          · subst hin
            refine (insert_end base i vb m mc (.slice (some ⟨g, 0, Option.none⟩) i c) c _ rfl vcur xs news w hown hnc hb hv hm hvl hvn h1 hn hm2).mono fun e w' ⟨v', he, k1, k2, k3⟩ => ?_
            refine ⟨v', he, ?_, k2, k3⟩
            have hxl : xs.length = i * 3 := hown.1
            rw [Nat.sub_self, Nat.add_zero, List.take_of_length_le (by omega), List.drop_of_length_le (by omega), List.append_nil]
            exact k1
          · by_cases hroom : n + m ≤ c
            · exact insert_shift base g n c i vb m mc cur vcur xs news w hg hbg hnc hcm hcs hx hx1 hv hne' hm hvsz hvl hvn h1 (by omega) hroom
            · exact insert_grow base g n c i vb m mc cur vcur xs news w hg hbg hnc hcm hcs hx hx1 hv hm hvl hvn h1 (by omega) (by omega) hn hm2 hb
        clear hmn hne hsome hx hcs hown hsrc hx1 h1
        have p3 : i ≤ n := hj
        go_enter Tryd.func26, Tryd.ntmps26
        go_wp2_with (go_at_call 44; refine ins.mono ?_; rintro e w1 ⟨v', rfl, k1, k2, k3⟩; have K1 := Lib.hid k1; have K2 := Lib.hid k2; have K3 := Lib.hid k3; clear k1 k2 k3)
        all_goals
          go_ret
          exact ⟨v', rfl, K1.out, K2.out, K3.out⟩
      · by_cases hjn : j = n
        · by_cases hless : i + m < n
          · exact replace_end_less base g n c i j vb m mc cur vcur xs news w hg hbg hnc hcm hcs hx hv hne' hm hvl hvn h1 (by omega) hjn hless hn
          · exact replace_end_more base g n c i j vb m mc cur vcur xs news w hg hbg hnc hcm hcs hx hv hne' hm hvl hvn h1 (by omega) hjn (by omega) hn hm2 hb
        · by_cases hless : i + m ≤ j
          · exact replace_mid_less base g n c i j vb m mc cur vcur xs news w hg hbg hnc hcm hcs hx hx1 hv hne' hm hvl hvn h1 (by omega) (by omega) hless hn
          · by_cases hroom : i + m + (n - j) ≤ c
            · exact replace_mid_more base g n c i j vb m mc cur vcur xs news w hg hbg hnc hcm hcs hx hx1 hv hne' hm hvl hvn h1 (by omega) (by omega) (by omega) hroom hn hm2
            · exact replace_grow base g n c i j vb m mc cur vcur xs news w hg hbg hnc hcm hcs hx hx1 hv hne' hm hvl hvn h1 (by omega) (by omega) (by omega) hn hm2 hb
end Go.Proofs.YthbjhpfgfpkppaaDoor
