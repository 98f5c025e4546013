/-
  The walk of SpanBytes.
-/
import Derived.Lib.QuietBelow
import Derived.OwnWalk
import Derived.Laws.OwnMore
import Derived.Test.YtbhbnkblnfaomaaDoorAwake
import Derived.Test.YtbhbnkblnfaomaaDoorBytesMath
import Derived.Test.YtbhbnkblnfaomaaDoorRef01H
namespace Go.Proofs.YtbhbnkblnfaomaaDoor
open Go Go.RowKit Go.Sort

theorem rgb {P : Program} {f : FuncId} {args : Array Value} {w : World} {v : Value} (h : ∀ W, Below w.heap.size w W → Calls P f args W fun e w' => e = .returned v ∧ Below W.heap.size W w') :
    ∀ d os, Calls P f args (grow (redrawn w d) os) fun e w'' => e = .returned v ∧ ∃ p : Regrown, w'' = grow (redrawn w p.d) p.os :=
  fun d os => Calls.regrown_of (h _ (below_regrown w d os))
theorem wf_bd {n : Int} (h : (Lit.int .i64 n).wf = true) : -9223372036854775808 ≤ n ∧ n ≤ 9223372036854775807 := by
  simp [Lit.wf, IntKind.min, IntKind.max, IntKind.bits, IntKind.signed] at h; omega
theorem own_ge {w : World} {base e size n : Nat} {v : Value} {xs : List Value} (h : w.ownsRow base e size v n xs) : ∀ k, v.ownBlock = some k → base ≤ k := by
  obtain ⟨_, ⟨rfl, _⟩ | ⟨g, cap, cur, rfl, hg, _⟩⟩ := h
  · intro k hk; simp [Value.ownBlock] at hk
  · intro k hk; simp only [Value.ownBlock] at hk; injection hk with hk; omega
theorem row_at {w : World} {base g cap : Nat} {zs : List Int} {p : Int} (h : w.ownsRow base 2 1 (.slice (some ⟨g, 0, none⟩) (zs.length + 1) cap) (zs.length + 1) (zs.map (Value.int .i64) ++ [.int .i64 p])) (hf : Fits zs) (bp : -9223372036854775808 ≤ p ∧ p ≤ 9223372036854775807) :
    ∀ k, k < zs.length + 1 → ∃ z : Int, w.cell? ⟨g, k, none⟩ = some (.int .i64 z) ∧ (-9223372036854775808 ≤ z ∧ z ≤ 9223372036854775807) := by
  intro k hk
  have e : zs.map (Value.int .i64) ++ [.int .i64 p] = (zs ++ [p]).map (Value.int .i64) := by simp
  rw [e] at h
  have hl : k < (zs ++ [p]).length := by simp; omega
  refine ⟨(zs ++ [p])[k], ?_, ?_⟩
  · rw [h.cellAt k (by omega), List.getElem?_map, List.getElem?_eq_getElem hl]; rfl
  · have hm := List.getElem_mem hl
    rcases List.mem_append.1 hm with q | q
    · exact hf _ q
    · rw [List.mem_singleton.1 q]; exact bp
theorem own_shape {w : World} {base e size n : Nat} {v : Value} {xs : List Value} (h : w.ownsRow base e size v n xs) (hn : 0 < n) :
    ∃ g cap, v = .slice (some ⟨g, 0, none⟩) n cap ∧ base ≤ g ∧ g < w.heap.size ∧ n ≤ cap := by
  obtain ⟨_, ⟨_, h0⟩ | ⟨g, cap, cur, hv, hg, hh, hc, _⟩⟩ := h
  · omega
  · refine ⟨g, cap, hv, hg, ?_, hc⟩
    rcases Nat.lt_or_ge g w.heap.size with q | q
    · exact q
    · rw [Array.getElem?_eq_none q] at hh; cases hh

set_option maxHeartbeats 8000000 in
set_option maxRecDepth 100000 in
theorem walk_SpanBytes (a b c d p : Int) (w : World) (hL : LaidAt w) (ha : (Lit.int .i64 a).wf = true) (hb : (Lit.int .i64 b).wf = true) (hc : (Lit.int .i64 c).wf = true) (hd : (Lit.int .i64 d).wf = true) (hp : (Lit.int .i64 p).wf = true) :
    Calls Tryd.prog 10 #[.agg #[.int .i64 a, .int .i64 b], .agg #[.int .i64 c, .int .i64 d], .int .i64 p] w fun e w' => e = .returned (.bool true) ∧ Below w.heap.size w w' := by
  have ba := wf_bd ha
  have bb := wf_bd hb
  have bc := wf_bd hc
  have bd := wf_bd hd
  have bp := wf_bd hp
  clear ha hb hc hd hp
  cases em : meetB a b c d
  all_goals cases et : touchB a b c d
  all_goals
   obtain ⟨i0, ii, iz0, iz1, iz2⟩ := info_parts infoI64
   go_enter Tryd.func10, Tryd.ntmps10
   go_wp2_with fail
   with_reducible refine (awake_any _ (hL.below (by go_grown))).mono ?_
   rintro e w1 ⟨rfl, hb1⟩
   obtain ⟨hc1, hf1⟩ := bcell hb1
   have hz1 : w.heap.size < w1.heap.size ∧ w.heap.size + 1 < w1.heap.size := (by have := hb1.size; (try simp only [World.size_alloc] at this); omega)
   have B1 := bel (w := w) (by go_grown) hb1
   clear hb1
   go_wp2_with fail
   with_reducible refine (meet_any a b c d _).mono ?_
   rintro e w2 ⟨rfl, hb2⟩
   obtain ⟨hc2, hf2⟩ := bcell hb2
   have hz2 : w.heap.size < w2.heap.size ∧ w.heap.size + 1 < w2.heap.size ∧ w.heap.size < w2.heap.size + 1 ∧ w.heap.size + 1 < w2.heap.size + 1 := (by have := hb2.size; (try simp only [World.size_alloc] at this); omega)
   have B2 := bel (w := w) (by go_grown) hb2
   clear hb2
   go_wp2_with fail
   with_reducible refine (join_any a b c d _).mono ?_
   rintro e w3 ⟨rfl, hb3⟩
   obtain ⟨hc3, hf3⟩ := bcell hb3
   have hz3 : w.heap.size < w3.heap.size ∧ w.heap.size + 1 < w3.heap.size ∧ w2.heap.size < w3.heap.size ∧ w.heap.size < w3.heap.size + 1 ∧ w.heap.size + 1 < w3.heap.size + 1 ∧ w2.heap.size < w3.heap.size + 1 := (by have := hb3.size; (try simp only [World.size_alloc] at this); omega)
   have B3 := bel (w := w) (by go_grown) hb3
   clear hb3
   go_wp2_with fail
   with_reducible refine (cut_any a b p _).mono ?_
   rintro e w4 ⟨rfl, hb4⟩
   obtain ⟨hc4, hf4⟩ := bcell hb4
   have hz4 : w.heap.size < w4.heap.size ∧ w.heap.size + 1 < w4.heap.size ∧ w2.heap.size < w4.heap.size ∧ w3.heap.size < w4.heap.size ∧ w.heap.size < w4.heap.size + 1 + 1 + 1 ∧ w.heap.size + 1 < w4.heap.size + 1 + 1 + 1 ∧ w2.heap.size < w4.heap.size + 1 + 1 + 1 ∧ w3.heap.size < w4.heap.size + 1 + 1 + 1 ∧ w4.heap.size < w4.heap.size + 1 + 1 + 1 ∧ w4.heap.size + 1 < w4.heap.size + 1 + 1 + 1 := (by have := hb4.size; (try simp only [World.size_alloc] at this); omega)
   have B4 := bel (w := w) (by go_grown) hb4
   clear hb4
   go_wp2_with fail
   with_reducible refine (rall_any (w4.heap.size + 1 + 1) a b c d _ (by simp) (by simp [go_sem]) (by simp [go_sem]) (by simp [go_sem]) (by simp [go_sem]) ba bb bc bd).mono ?_
   rintro e w5 hpost
   obtain ⟨v, zs, rfl, hown0, hlen, hfit, hb5⟩ := hpost
   have hown : w5.ownsRow (w4.heap.size + 1 + 1 + 1) 2 1 v zs.length (zs.map (Value.int .i64)) := by simpa only [World.size_alloc] using hown0
   clear hown0
   obtain ⟨hc5, hf5⟩ := bcell hb5
   have B5 := bel (w := w) (by go_grown) hb5
   have sz5 := hb5.size
   simp only [World.size_alloc] at sz5
   have HFIT := Lib.hid hfit; clear hfit hb5
   go_wp2_with (at_builtin; refine wpList_append_own _ rfl _ _ 39 rfl (w4.heap.size + 1 + 1 + 1) 2 i0 (.int .i64 0) 1 8 Tryd.underlying39 ii iz0 iz1 iz2 rfl (by decide) _ zs.length (zs.map (Value.int .i64)) rfl (hown.alloc _) ⟨w5.heap.size, 0, none⟩ 1 1 [.int .i64 p] rfl rfl ?c1 ?c2 ?c3 ?c4 ?c5 ?_)
   case c1 =>
     intro j u hj
     match j, hj with
     | 0, hj => simp at hj; subst hj; simp [Addr.add]
   case c2 => intro u hu; simp at hu; subst hu; rfl
   case c3 => unfold maxLen; omega
   case c4 => omega
   case c5 => simp only [World.size_alloc]; omega
   intro v' w6 hown6 hgrow6 _
   have B56 : Below (w4.heap.size + 1 + 1 + 1) w5 w6 := (((Below.refl _ w5).alloc sz5 _).grown hgrow6 (by simp only [World.size_alloc]; omega) (own_ge hown))
   have B6 : Below w.heap.size w w6 := B5.trans (B56.mono (by omega))
   obtain ⟨g, cap, rfl, hgb, hgl, hcap⟩ := own_shape hown6 (by omega)
   have HR := Lib.hid (row_at hown6 HFIT.out bp)
   have sz6 := B56.size
   have zA : w.heap.size < w4.heap.size + 1 ∧ w.heap.size < w4.heap.size + 1 + 1 ∧ w.heap.size + 1 < w4.heap.size + 1 ∧ w.heap.size + 1 < w4.heap.size + 1 + 1 ∧ w2.heap.size < w4.heap.size + 1 ∧ w2.heap.size < w4.heap.size + 1 + 1 ∧ w3.heap.size < w4.heap.size + 1 ∧ w3.heap.size < w4.heap.size + 1 + 1 := by omega
   have e00 : w6.cell? ⟨w.heap.size, 0, none⟩ = some (.int .i64 a) := by rw [B56.cell (p := ⟨w.heap.size, 0, none⟩) (by show w.heap.size < w4.heap.size + 1 + 1 + 1; omega)]; simp [go_sem, *]
   have e01 : w6.cell? ⟨w.heap.size, 1, none⟩ = some (.int .i64 b) := by rw [B56.cell (p := ⟨w.heap.size, 1, none⟩) (by show w.heap.size < w4.heap.size + 1 + 1 + 1; omega)]; simp [go_sem, *]
   have e10 : w6.cell? ⟨w.heap.size + 1, 0, none⟩ = some (.int .i64 c) := by rw [B56.cell (p := ⟨w.heap.size + 1, 0, none⟩) (by show w.heap.size + 1 < w4.heap.size + 1 + 1 + 1; omega)]; simp [go_sem, *]
   have e11 : w6.cell? ⟨w.heap.size + 1, 1, none⟩ = some (.int .i64 d) := by rw [B56.cell (p := ⟨w.heap.size + 1, 1, none⟩) (by show w.heap.size + 1 < w4.heap.size + 1 + 1 + 1; omega)]; simp [go_sem, *]
   have e20 : w6.cell? ⟨w2.heap.size, 0, none⟩ = some (.int .i64 (meetF a b c d)) := by rw [B56.cell (p := ⟨w2.heap.size, 0, none⟩) (by show w2.heap.size < w4.heap.size + 1 + 1 + 1; omega)]; simp [go_sem, *]
   have e21 : w6.cell? ⟨w2.heap.size, 1, none⟩ = some (.int .i64 (meetT a b c d)) := by rw [B56.cell (p := ⟨w2.heap.size, 1, none⟩) (by show w2.heap.size < w4.heap.size + 1 + 1 + 1; omega)]; simp [go_sem, *]
   have e30 : w6.cell? ⟨w3.heap.size, 0, none⟩ = some (.int .i64 (joinF a b c d)) := by rw [B56.cell (p := ⟨w3.heap.size, 0, none⟩) (by show w3.heap.size < w4.heap.size + 1 + 1 + 1; omega)]; simp [go_sem, *]
   have e31 : w6.cell? ⟨w3.heap.size, 1, none⟩ = some (.int .i64 (joinT a b c d)) := by rw [B56.cell (p := ⟨w3.heap.size, 1, none⟩) (by show w3.heap.size < w4.heap.size + 1 + 1 + 1; omega)]; simp [go_sem, *]
   have e40 : w6.cell? ⟨w4.heap.size, 0, none⟩ = some (.int .i64 (cutA a b)) := by rw [B56.cell (p := ⟨w4.heap.size, 0, none⟩) (by show w4.heap.size < w4.heap.size + 1 + 1 + 1; omega)]; simp [go_sem, *]
   have e41 : w6.cell? ⟨w4.heap.size, 1, none⟩ = some (.int .i64 (cutM a b p)) := by rw [B56.cell (p := ⟨w4.heap.size, 1, none⟩) (by show w4.heap.size < w4.heap.size + 1 + 1 + 1; omega)]; simp [go_sem, *]
   have e50 : w6.cell? ⟨w4.heap.size + 1, 0, none⟩ = some (.int .i64 (cutM a b p)) := by rw [B56.cell (p := ⟨w4.heap.size + 1, 0, none⟩) (by show w4.heap.size + 1 < w4.heap.size + 1 + 1 + 1; omega)]; simp [go_sem, *]
   have e51 : w6.cell? ⟨w4.heap.size + 1, 1, none⟩ = some (.int .i64 (cutZ a b)) := by rw [B56.cell (p := ⟨w4.heap.size + 1, 1, none⟩) (by show w4.heap.size + 1 < w4.heap.size + 1 + 1 + 1; omega)]; simp [go_sem, *]
   have zz : w.heap.size < w6.heap.size ∧ w.heap.size + 1 < w6.heap.size ∧ w2.heap.size < w6.heap.size ∧ w3.heap.size < w6.heap.size ∧ w4.heap.size < w6.heap.size ∧ w4.heap.size + 1 < w6.heap.size := by omega
   clear hown hown6 hgrow6 B56 hc1 hc2 hc3 hc4 hc5 hf1 hf2 hf3 hf4 hf5 B1 B2 B3 B4 B5 hz1 hz2 hz3 hz4 hgb
   clear zA
   go_wp2_with fail
   go_loopw [45] (fun i wr => ∃ k : Nat, k ≤ zs.length + 1 ∧ i = .int .i64 k ∧ Below w6.heap.size w6 wr) (fun i _ => zs.length + 1 - (intOf i).toNat)
   case atStart => exact ⟨0, Nat.zero_le _, rfl, Below.refl _ _⟩
   case round =>
     obtain ⟨k, hk, rfl, hbel⟩ := hrel
     by_cases hlt : k < zs.length + 1
     · obtain ⟨z, hz, bz⟩ := HR.out k hlt
       have hzc : wr.cell? ⟨g, k, none⟩ = some (.int .i64 z) := by rw [hbel.cell (p := ⟨g, k, none⟩) hgl]; exact hz
       have hk0 : (0 : Int) ≤ (k : Int) := by omega
       have hk1 : (k : Int) < ((zs.length + 1 : Nat) : Int) := by omega
       have hk2 : (k : Int) < (zs.length : Int) + 1 := by omega
       have s0 := cell_regrown (show wr.cell? ⟨w.heap.size, 0, none⟩ = some (.int .i64 a) from by rw [hbel.cell (p := ⟨w.heap.size, 0, none⟩) zz.1]; exact e00)
       have s1 := cell_regrown (show wr.cell? ⟨w.heap.size, 1, none⟩ = some (.int .i64 b) from by rw [hbel.cell (p := ⟨w.heap.size, 1, none⟩) zz.1]; exact e01)
       have t0 := cell_regrown (show wr.cell? ⟨w.heap.size + 1, 0, none⟩ = some (.int .i64 c) from by rw [hbel.cell (p := ⟨w.heap.size + 1, 0, none⟩) zz.2.1]; exact e10)
       have t1 := cell_regrown (show wr.cell? ⟨w.heap.size + 1, 1, none⟩ = some (.int .i64 d) from by rw [hbel.cell (p := ⟨w.heap.size + 1, 1, none⟩) zz.2.1]; exact e11)
       have q1 := rgb (w := wr) (fun W _ => has_any a b z W)
       have q2 := rgb (w := wr) (fun W _ => has_any c d z W)
       have vm := meet_has a b c d z
       have vj := join_has a b c d z
       have vx := cut_has a b p z
       have vy := cut_has2 a b p z
       cases g1 : hasB a b z
       all_goals cases g2 : hasB c d z
       all_goals
         rw [g1, g2, em] at vm
         rw [et, g1, g2] at vj
         rw [g1] at vx vy
         simp only [Bool.true_and, Bool.false_and, Bool.and_true, Bool.and_false, Bool.or_true, Bool.or_false, Bool.and_self, Bool.or_self, forall_const, false_implies, Bool.false_eq_true] at vm vj vx vy
       all_goals by_cases hzp : z < p
       all_goals
         go_wp2_with fail
         refine wp_region_quiet_below (by kernel_rfl) (by kernel_rfl) ?_
         repeat (quiet_step (first | with_reducible exact q1 _ _ | with_reducible exact q2 _ _))
         refine wpQuiet_nil ?_
         intro _ hw'
         obtain ⟨⟨dq, osq⟩, hw''⟩ := hw'
         subst hw''
         have B7 := bel (w := w6) hbel (below_regrown wr dq osq)
         clear s0 s1 t0 t1 q1 q2 hzc hbel
         generalize grow (redrawn wr dq) osq = w7 at *
         obtain ⟨hc7, _⟩ := bcell B7
         go_wp2_with (first | (go_at_call 17; with_reducible refine (has_any (meetF a b c d) (meetT a b c d) z _).mono ?_; rintro e wm ⟨rfl, hbwm⟩; have Bwm := bel (w := w6) (by assumption) hbwm; obtain ⟨hcwm, _⟩ := bcell Bwm; clear hbwm) | (go_at_call 17; with_reducible refine (has_any (joinF a b c d) (joinT a b c d) z _).mono ?_; rintro e wj ⟨rfl, hbwj⟩; have Bwj := bel (w := w6) (by assumption) hbwj; obtain ⟨hcwj, _⟩ := bcell Bwj; clear hbwj) | (go_at_call 17; with_reducible refine (has_any (cutA a b) (cutM a b p) z _).mono ?_; rintro e wx ⟨rfl, hbwx⟩; have Bwx := bel (w := w6) (by assumption) hbwx; obtain ⟨hcwx, _⟩ := bcell Bwx; clear hbwx) | (go_at_call 17; with_reducible refine (has_any (cutM a b p) (cutZ a b) z _).mono ?_; rintro e wy ⟨rfl, hbwy⟩; have Bwy := bel (w := w6) (by assumption) hbwy; obtain ⟨hcwy, _⟩ := bcell Bwy; clear hbwy))
         go_roundw
         case rel => exact ⟨k + 1, by omega, by go_num, by assumption⟩
         case measure => simp [intOf]; omega
     · have hke : k = zs.length + 1 := by omega
       subst hke
       go_wp2_with fail
       go_ret
       exact ⟨rfl, bel B6 hbel⟩
end Go.Proofs.YtbhbnkblnfaomaaDoor
