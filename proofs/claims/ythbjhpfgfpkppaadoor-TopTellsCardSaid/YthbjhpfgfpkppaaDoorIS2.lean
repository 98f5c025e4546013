/-
  slices.Replace at runs: its roads up to the end.
-/
import Derived.Test.YthbjhpfgfpkppaaDoorIS
namespace Go.Proofs.YthbjhpfgfpkppaaDoor
open Go Go.RowKit Go.Lib

set_option maxHeartbeats 4000000 in
set_option maxRecDepth 100000 in
/-- up to the end, fewer than there were -/
theorem replace_end_less (base g n c i j vb m vc : Nat) (cur vcur : Array Value) (xs news : List Value) (w : World) (hg : Blk w g cur) (hbg : base ≤ g) (hnc : n ≤ c) (hcm : c ≤ maxLen) (hcs : cur.size = c * 3) (hx : cur.toList.take (n * 3) = xs)
    (hvb : Blk w vb vcur) (_hne : vb ≠ g) (hm : 0 < m) (hvl : news.length = m * 3) (hvn : vcur.toList.take (m * 3) = news) (h1 : ∀ u ∈ news, u.oneCell' = true) (hij : i < j) (hj : j = n) (hless : i + m < n) (hn : n ≤ 1000000) :
    Calls Tryd.prog 26 #[.slice (some ⟨g, 0, none⟩) n c, .int .i64 i, .int .i64 j, .slice (some ⟨vb, 0, none⟩) m vc] w fun e w' => RepPost base g i j n m xs news w w' e := by
  obtain ⟨i0, hi0, hz0, hz1, hz2⟩ := info_parts infoRn
  have mixed : Tryd.prog.follows .mixedOrders = true := by kernel_rfl
  have hc63 : c ≤ 9223372036854775807 := by unfold maxLen at hcm; omega
  have q2 : ¬ ((i : Int) = (j : Int)) := by omega
  have p1 : (i : Int) ≤ (j : Int) := by omega
  have hij' : i ≤ j := by omega
  have hb4 : ¬ (c = i) := by omega
  subst hj
  have hxl : xs.length = j * 3 := by rw [← hx]; simp; omega
  have q4 : (i : Int) + (m : Int) < (j : Int) := by omega
  have q5 : i + m ≤ j := by omega
  have q7 : ¬ (c = i + m) := by omega
  have hown : w.ownsRow base 61 3 (.slice (some ⟨g, 0, none⟩) i c) i (xs.take (i * 3)) := row_own hg hbg (by omega) hcm hcs (take_of hx hij')
  obtain ⟨w', hr, ho, hgr⟩ := run_append_fits (P := Tryd.prog) w base 46 46 61 i0 3 Tryd.underlying46 hi0 hz1 g i c _ hown ⟨vb, 0, none⟩ m vc news hvl (fun j u hj => by have := row_reads hvb 0 (m * 3) j u; rw [List.drop_zero, hvn] at this; exact this hj) h1 (by omega)
  obtain ⟨cur1, hg1, -, -, -, hcs1, hx1'⟩ := own_row ho
  have hcl : ∀ ty dc, (Builtin.clear_ #[46] ty #[.slice (some ⟨g, (i + m) * 3, none⟩) (j - (i + m)) dc]).run Tryd.prog w' = .ok (.tuple #[]) (w'.setRow g (splice cur1 ((i + m) * 3) (zc (j - (i + m))))) := fun ty dc => clear_blk hg1 ty _ _ dc (by omega)
  have HG := Lib.hid hg1; have HX := Lib.hid hx1'; have HGR := Lib.hid hgr; have HXX := Lib.hid hx
  clear hx hx1' hgr ho hown hg1
  go_enter Tryd.func26, Tryd.ntmps26
  go_wp2_with (at_builtin; refine Lib.wpList_append_run _ rfl _ _ _ _ rfl _ _ rfl rfl _ _ hr ?_)
  go_ret
  have k1 := HGR.out
  show RepPost base g i j j m xs news w _ (.returned (.slice (some ⟨g, 0, none⟩) (i + m) c))
  refine fin_own (by exact k1.os) (by exact k1.tape) (by exact k1.output) (by simpa using k1.size) (fun k hk hne' => ?_) (Blk.set HG.out _) hbg (by omega) hcm ?_ ?_ (by omega) (.inl rfl)
  · rw [setRow_other _ _ _ _ hne']
    exact k1.block k hk (fun e => hne' (Option.some.inj e))
  · rw [splice_size (by rw [zc_len]; omega)]; exact hcs1
  · rw [Nat.sub_self, Nat.add_zero, splice_low (Nat.le_refl _) (by omega), HX.out, List.drop_of_length_le (by omega : xs.length ≤ j * 3), List.append_nil]

set_option maxHeartbeats 4000000 in
set_option maxRecDepth 100000 in
/-- up to the end, as many as there were or more -/
theorem replace_end_more (base g n c i j vb m vc : Nat) (cur vcur : Array Value) (xs news : List Value) (w : World) (hg : Blk w g cur) (hbg : base ≤ g) (hnc : n ≤ c) (hcm : c ≤ maxLen) (hcs : cur.size = c * 3) (hx : cur.toList.take (n * 3) = xs)
    (hvb : Blk w vb vcur) (_hne : vb ≠ g) (hm : 0 < m) (hvl : news.length = m * 3) (hvn : vcur.toList.take (m * 3) = news) (h1 : ∀ u ∈ news, u.oneCell' = true) (hij : i < j) (hj : j = n) (hmore : n ≤ i + m) (hn : n ≤ 1000000) (hm2 : m ≤ 1000000) (hb : base ≤ w.heap.size) :
    Calls Tryd.prog 26 #[.slice (some ⟨g, 0, none⟩) n c, .int .i64 i, .int .i64 j, .slice (some ⟨vb, 0, none⟩) m vc] w fun e w' => RepPost base g i j n m xs news w w' e := by
  obtain ⟨i0, hi0, hz0, hz1, hz2⟩ := info_parts infoRn
  have mixed : Tryd.prog.follows .mixedOrders = true := by kernel_rfl
  have hc63 : c ≤ 9223372036854775807 := by unfold maxLen at hcm; omega
  have q2 : ¬ ((i : Int) = (j : Int)) := by omega
  have p1 : (i : Int) ≤ (j : Int) := by omega
  have hij' : i ≤ j := by omega
  have hb4 : ¬ (c = i) := by omega
  subst hj
  have hxl : xs.length = j * 3 := by rw [← hx]; simp; omega
  have q4 : ¬ ((i : Int) + (m : Int) < (j : Int)) := by omega
  have q5 : (j : Int) ≤ (i : Int) + (m : Int) := by omega
  have hown : w.ownsRow base 61 3 (.slice (some ⟨g, 0, none⟩) i c) i (xs.take (i * 3)) := row_own hg hbg (by omega) hcm hcs (take_of hx hij')
  have hnews : ∀ j u, news[j]? = some u → w.cell? ((⟨vb, 0, none⟩ : Addr).add j) = some u := (fun j u hj => by have := row_reads hvb 0 (m * 3) j u; rw [List.drop_zero, hvn] at this; exact this hj)
  obtain ⟨v', w', hr, k1, k2, k3⟩ := run_append_kin (P := Tryd.prog) w base 46 46 61 i0 _ 3 24 Tryd.underlying46 hi0 hz0 hz1 hz2 rfl (by omega) _ i (xs.take (i * 3)) hown ⟨vb, 0, none⟩ m vc news hvl hnews h1 hm (by unfold maxLen; omega) (by omega) hb
  obtain ⟨g', c', rfl⟩ : ∃ g' c', v' = .slice (some ⟨g', 0, none⟩) (i + m) c' := by
    rcases k1.2 with ⟨_, e⟩ | ⟨g', c', _, e, _⟩
    · exact absurd e (by omega)
    · exact ⟨g', c', e⟩
  have K1 := Lib.hid k1; have K2 := Lib.hid k2; have K3 := Lib.hid k3
  clear k1 k2 k3 hown
  go_enter Tryd.func26, Tryd.ntmps26
  go_wp2_with (at_builtin; refine Lib.wpList_append_run _ rfl _ _ _ _ rfl _ _ rfl rfl _ _ hr ?_)
  go_ret
  refine ⟨_, rfl, ?_, K2.out, K3.out⟩
  rw [Nat.sub_self, Nat.add_zero, List.drop_of_length_le (by omega : xs.length ≤ j * 3), List.append_nil]
  exact K1.out

set_option maxHeartbeats 4000000 in
set_option maxRecDepth 100000 in
/-- up to the end, none -/
theorem replace_end_none (base g n c i j : Nat) (cur : Array Value) (xs : List Value) (w : World) (hg : Blk w g cur) (hbg : base ≤ g) (hnc : n ≤ c) (hcm : c ≤ maxLen) (hcs : cur.size = c * 3) (hx : cur.toList.take (n * 3) = xs)
    (hij : i < j) (hj : j = n) (hn : n ≤ 1000000) :
    Calls Tryd.prog 26 #[.slice (some ⟨g, 0, none⟩) n c, .int .i64 i, .int .i64 j, .slice none 0 0] w fun e w' => RepPost base g i j n 0 xs [] w w' e := by
  obtain ⟨i0, hi0, hz0, hz1, hz2⟩ := info_parts infoRn
  have mixed : Tryd.prog.follows .mixedOrders = true := by kernel_rfl
  have hc63 : c ≤ 9223372036854775807 := by unfold maxLen at hcm; omega
  have q2 : ¬ ((i : Int) = (j : Int)) := by omega
  have p1 : (i : Int) ≤ (j : Int) := by omega
  have hij' : i ≤ j := by omega
  have hb4 : ¬ (c = i) := by omega
  subst hj
  have hxl : xs.length = j * 3 := by rw [← hx]; simp; omega
  have q4 : (i : Int) < (j : Int) := by omega
  have hown : w.ownsRow base 61 3 (.slice (some ⟨g, 0, none⟩) i c) i (xs.take (i * 3)) := row_own hg hbg (by omega) hcm hcs (take_of hx hij')
  have hr := run_append_owned_none (P := Tryd.prog) w base 46 46 61 i0 3 Tryd.underlying46 hi0 _ _ _ hown
  have hcl : ∀ ty dc, (Builtin.clear_ #[46] ty #[.slice (some ⟨g, i * 3, none⟩) (j - i) dc]).run Tryd.prog w = .ok (.tuple #[]) (w.setRow g (splice cur (i * 3) (zc (j - i)))) := fun ty dc => clear_blk hg ty _ _ dc (by omega)
  have HX := Lib.hid hx
  clear hx hown
  go_enter Tryd.func26, Tryd.ntmps26
  go_wp2_with (at_builtin; refine Lib.wpList_append_run _ rfl _ _ _ _ rfl _ _ rfl rfl _ _ hr ?_)
  go_ret
  show RepPost base g i j j 0 xs [] w _ (.returned (.slice (some ⟨g, 0, none⟩) i c))
  refine fin_own (by rfl) (by rfl) (by rfl) (by simp) (fun k _ hk => by rw [setRow_other _ _ _ _ hk]) (Blk.set hg _) hbg (by omega) hcm ?_ ?_ (by omega) (.inl rfl)
  · rw [splice_size (by rw [zc_len]; omega)]; exact hcs
  · rw [Nat.sub_self, Nat.add_zero, splice_low (Nat.le_refl _) (by omega), List.drop_of_length_le (by omega : xs.length ≤ j * 3), List.append_nil, List.append_nil, take_of HX.out hij']
end Go.Proofs.YthbjhpfgfpkppaaDoor
