/-
  The place of the first run with a byte from a on; the places that meet a span.
-/
import Derived.Test.YthbjhpfgfpkppaaDoorIA
namespace Go.Proofs.YthbjhpfgfpkppaaDoor
open Go Go.RowKit
open Go.Sort (grow)

theorem makes_call {P : Program} {f : FuncId} {args : Array Value} {W : World} {c : Value} (h : Calls P f args W fun e w' => e = .returned c ∧ Ext W w') (he : (callFunc f args).run P W = .ok (.enter f args) W) : makes P W (.val c) ((callFunc f args).run P W) := by
  rw [he]
  exact ⟨Ext.rf _, h.mono fun e w' ⟨h1, h2⟩ => ⟨c, h1, h2, rfl⟩⟩
/-- how a map's list is asked for -/
def Lists (M : Value) (w : World) (A : Option Addr) (n c : Nat) : Prop := ∀ W, Ext w W → Calls Tryd.prog 31 #[M] W fun e w' => e = .returned (.slice A n c) ∧ w' = W
theorem Lists.map {mb : Nat} {A : Option Addr} {n c : Nat} {w : World} (h : w.cell? ⟨mb, 0, none⟩ = some (.slice A n c)) (hlt : mb < w.heap.size) : Lists (.pointer (some ⟨mb, 0, none⟩)) w A n c :=
  fun W e => list_map mb A n c W (by rw [e.cell (p := ⟨mb, 0, none⟩) hlt]; exact h)
theorem Lists.nil (w : World) : Lists (.pointer none) w none 0 0 := fun W _ => list_nil W
theorem Lists.ext {M : Value} {w W : World} {A : Option Addr} {n c : Nat} (h : Lists M w A n c) (e : Ext w W) : Lists M W A n c := fun W' e' => h W' (e.tr e')

set_option maxHeartbeats 4000000 in
theorem after_any (M : Value) (A : Option Addr) (n c : Nat) (l : List Rn) (p : Int) (w : World) (hM : Lists M w A n c) (hn : l.length = n) (hbig : n ≤ 1000000) (hg : Good 0 Option.none l) (hs : RnAt w w.heap.size A l) :
    Calls Tryd.prog 27 #[M, .int .i64 p] w fun e w' => e = .returned (.int .i64 (idxA l p : Nat)) ∧ Ext w w' := by
  have e1 : Ext w (w.alloc (.cells #[.int .i64 p] 2)) := (Below.refl _ _).alloc (Nat.le_refl _) _
  have e2 : Ext w ((w.alloc (.cells #[.int .i64 p] 2)).alloc (.cells #[.slice A n c] 46)) := e1.tr ((Below.refl _ _).alloc (Nat.le_refl _) _)
  have HL := Lib.hid (hM _ e1)
  have eg : ∀ args w, (callFunc 48 args).run Tryd.prog w = .ok (.enter 48 args) w := enters_of Tryd.func48 (by kernel_rfl) rfl
  have k2 : ((w.alloc (.cells #[.int .i64 p] 2)).alloc (.cells #[.slice A n c] 46)).cell? ⟨w.heap.size + 1, 0, none⟩ = some (.slice A n c) := by simp
  have k3 : ((w.alloc (.cells #[.int .i64 p] 2)).alloc (.cells #[.slice A n c] 46)).cell? ⟨w.heap.size, 0, none⟩ = some (.int .i64 p) := by simp
  have ks : w.heap.size + 1 < ((w.alloc (.cells #[.int .i64 p] 2)).alloc (.cells #[.slice A n c] 46)).heap.size := by simp
  have hcon : Calls Tryd.prog 42 #[.int .i64 n, .func (.func 48) #[] #[.pointer (some ⟨w.heap.size + 1, 0, none⟩), .pointer (some ⟨w.heap.size, 0, none⟩)]] ((w.alloc (.cells #[.int .i64 p] 2)).alloc (.cells #[.slice A n c] 46)) fun e w' => e = .returned (.int .i64 (idxA l p : Nat)) ∧ Ext w w' := by
    generalize (w.alloc (.cells #[.int .i64 p] 2)).alloc (.cells #[.slice A n c] 46) = W at *
    refine (search_runs 48 (tstA l p) (fun r => decide (p < r.2.1)) n #[.pointer (some ⟨w.heap.size + 1, 0, none⟩), .pointer (some ⟨w.heap.size, 0, none⟩)] l W hn hbig (fun i h => tstA_at h) (fun a b hb hab h => by have := good_at hg hab hb; simp at h ⊢; omega) eg (fun m os i hi => ?_)).mono fun e w' ⟨h1, h2⟩ => ⟨h1, e2.tr h2⟩
    have eW : Ext W (grow (W.drewN m) os) := below_grown_sl _ W m os (Nat.le_refl _)
    exact after_clo (w.heap.size + 1) w.heap.size n c i A l p _ hn hi hbig (hs.ext (e2.tr eW)) (by rw [eW.cell (p := ⟨w.heap.size + 1, 0, none⟩) ks]; exact k2) (by rw [eW.cell (p := ⟨w.heap.size, 0, none⟩) (by show w.heap.size < _; omega)]; exact k3)
  clear e1 e2 k2 k3 ks hs hM
  have HC := Lib.hid hcon
  clear hcon
  go_enter Tryd.func27, Tryd.ntmps27
  go_wp2_with (first
    | (go_at_call 31; refine (Hid.out HL).mono ?_; rintro e w1 ⟨rfl, rfl⟩)
    | (go_at_call 42; refine (Hid.out HC).mono ?_; rintro e w' ⟨rfl, h4⟩))
  go_ret
  exact ⟨rfl, h4⟩

set_option maxHeartbeats 8000000 in
set_option maxRecDepth 100000 in
theorem meeting_any (M : Value) (A : Option Addr) (n c : Nat) (l : List Rn) (a b : Int) (w : World) (hM : Lists M w A n c) (hn : l.length = n) (hbig : n ≤ 1000000) (hg : Good 0 Option.none l) (hs : RnAt w w.heap.size A l) :
    Calls Tryd.prog 24 #[M, .agg #[.int .i64 a, .int .i64 b]] w fun e w' => e = .returned (.tuple #[.int .i64 (idxA l a : Nat), .int .i64 (idxB l b : Nat)]) ∧ Ext w w' := by
  have e1 : Ext w (w.alloc (.cells #[.int .i64 a, .int .i64 b] 31)) := (Below.refl _ _).alloc (Nat.le_refl _) _
  have e2 : Ext w ((w.alloc (.cells #[.int .i64 a, .int .i64 b] 31)).alloc (.cells #[.slice A n c] 46)) := e1.tr ((Below.refl _ _).alloc (Nat.le_refl _) _)
  have HL := Lib.hid (hM _ e1)
  have hmf : ∀ (fn : Fn) (first cap : Array Value) (w : World), (Instr.makeFunc fn first cap).run Tryd.prog w = .ok (.func fn first cap) w := fun _ _ _ _ => rfl
  have eg : ∀ args w, (callFunc 43 args).run Tryd.prog w = .ok (.enter 43 args) w := enters_of Tryd.func43 (by kernel_rfl) rfl
  have ega : ∀ args w, (callFunc 27 args).run Tryd.prog w = .ok (.enter 27 args) w := enters_of Tryd.func27 (by kernel_rfl) rfl
  have egs : ∀ args w, (callFunc 42 args).run Tryd.prog w = .ok (.enter 42 args) w := enters_of Tryd.func42 (by kernel_rfl) rfl
  go_enter Tryd.func24, Tryd.ntmps24
  go_wp2_with (go_at_call 31; refine (Hid.out HL).mono ?_; rintro e w1 ⟨rfl, rfl⟩)
  obtain ⟨w2, hw2⟩ : ∃ w2, w2 = (w.alloc (.cells #[.int .i64 a, .int .i64 b] 31)).alloc (.cells #[.slice A n c] 46) := ⟨_, rfl⟩
  have ks : w.heap.size + 1 < w2.heap.size := by rw [hw2]; simp
  rw [← hw2] at e2 ⊢
  have k0 : ∀ W, Ext w2 W → W.cell? ⟨w.heap.size + 1, 0, none⟩ = some (.slice A n c) := fun W h => by rw [h.cell (p := ⟨w.heap.size + 1, 0, none⟩) ks, hw2]; simp
  have k1 : ∀ W, Ext w2 W → W.cell? ⟨w.heap.size, 0, none⟩ = some (.int .i64 a) := fun W h => by rw [h.cell (p := ⟨w.heap.size, 0, none⟩) (by show w.heap.size < _; omega), hw2]; simp
  have k2 : ∀ W, Ext w2 W → W.cell? ⟨w.heap.size, 1, none⟩ = some (.int .i64 b) := fun W h => by rw [h.cell (p := ⟨w.heap.size, 1, none⟩) (by show w.heap.size < _; omega), hw2]; simp
  have HA : ∀ W, Ext w2 W → Calls Tryd.prog 27 #[M, .int .i64 a] W fun e w' => e = .returned (.int .i64 (idxA l a : Nat)) ∧ Ext W w' := fun W h => after_any M A n c l a W (hM.ext (e2.tr h)) hn hbig hg (hs.ext (e2.tr h))
  have HB : ∀ W, Ext w2 W → Calls Tryd.prog 42 #[.int .i64 n, .func (.func 43) #[] #[.pointer (some ⟨w.heap.size + 1, 0, none⟩), .pointer (some ⟨w.heap.size, 0, none⟩)]] W fun e w' => e = .returned (.int .i64 (idxB l b : Nat)) ∧ Ext W w' := fun W hW => by
    refine search_runs 43 (tstB l b) (fun r => decide (b ≤ r.1)) n #[.pointer (some ⟨w.heap.size + 1, 0, none⟩), .pointer (some ⟨w.heap.size, 0, none⟩)] l W hn hbig (fun i h => tstB_at h) (fun a b hb hab h => by have := good_at hg hab hb; simp at h ⊢; omega) eg (fun m os i hi => ?_)
    have eW : Ext W (grow (W.drewN m) os) := below_grown_sl _ W m os (Nat.le_refl _)
    exact meeting_clo (w.heap.size + 1) w.heap.size n c i A l a b _ hn hi hbig (hs.ext (e2.tr (hW.tr eW))) (k0 _ (hW.tr eW)) (k1 _ (hW.tr eW)) (k2 _ (hW.tr eW))
  clear hw2 HL e1 hM hs hg eg
  refine' wp_region_made (rels := relsOf ((.val _) :: (.val _) :: (.val _) :: (.val _) :: (.val _) :: (.val _) :: (.val _) :: (.val _) :: (.val _) :: (.val _) :: [])) (w := w2) 17 (by kernel_rfl) (by kernel_rfl) (by rfl) (relsOf_stable ?st) ?wk
  case st => exact stable_val (stable_val (stable_val (stable_val (stable_val (stable_val (stable_val (stable_val (stable_val (stable_val (stable_nil))))))))))
  case wk =>
    refine' walk_val (by rfl) ?a0 (fun K hK => ?b0); (case a0 => (intro W hW hd; clear hd; go_simp; first | exact ⟨Ext.rf _, rfl⟩ | rfl)); (go_simp; refine hK _ ?_; clear hK K)
    refine' walk_val (by rfl) ?a1 (fun K hK => ?b1); (case a1 => (intro W hW hd; clear hd; go_simp; first | exact ⟨Ext.rf _, rfl⟩ | rfl)); (go_simp; refine hK _ ?_; clear hK K)
    refine' walk_val (by rfl) ?a2 (fun K hK => ?b2); (case a2 => (intro W hW hd; go_simp; (clear hd; have c0 := k0 W hW; have c1 := k1 W hW; go_simp; exact ⟨Ext.rf _, rfl⟩))); (go_simp; refine hK _ ?_; clear hK K)
    refine' walk_val (by rfl) ?a3 (fun K hK => ?b3); (case a3 => (intro W hW hd; go_simp; (clear hd; exact makes_call (HA W hW) (ega _ _)))); (go_simp; refine hK _ ?_; clear hK K)
    refine' walk_val (by rfl) ?a4 (fun K hK => ?b4); (case a4 => (intro W hW hd; go_simp; (clear hd; have c0 := k0 W hW; have c1 := k1 W hW; go_simp; exact ⟨Ext.rf _, rfl⟩))); (go_simp; refine hK _ ?_; clear hK K)
    refine' walk_val (by rfl) ?a5 (fun K hK => ?b5); (case a5 => (intro W hW hd; clear hd; go_simp; first | exact ⟨Ext.rf _, rfl⟩ | rfl)); (go_simp; refine hK _ ?_; clear hK K)
    refine' walk_val (by rfl) ?a6 (fun K hK => ?b6); (case a6 => (intro W hW hd; clear hd; go_simp; first | exact ⟨Ext.rf _, rfl⟩ | rfl)); (go_simp; refine hK _ ?_; clear hK K)
    refine' walk_val (by rfl) ?a7 (fun K hK => ?b7); (case a7 => (intro W hW hd; go_simp; (clear hd; exact makes_call (HB W hW) (egs _ _)))); (go_simp; refine hK _ ?_; clear hK K)
    refine' walk_val (by rfl) ?a8 (fun K hK => ?b8); (case a8 => (intro W hW hd; clear hd; go_simp; first | exact ⟨Ext.rf _, rfl⟩ | rfl)); (go_simp; refine hK _ ?_; clear hK K)
    refine' walk_val (by rfl) ?a9 (fun K hK => ?b9); (case a9 => (intro W hW hd; clear hd; go_simp; first | exact ⟨Ext.rf _, rfl⟩ | rfl)); (go_simp; refine hK _ ?_; clear hK K)
    refine walk_end (fun W hW hfin => ?_)
    clear hfin k0 k1 k2 HA HB
    go_simp
    go_wp2
    exact bodyPost_ret (v := .tuple #[.int .i64 (idxA l a : Nat), .int .i64 (idxB l b : Nat)]) (by simp [results, Tryd.results24, go_sem]) rfl ⟨rfl, e2.tr hW⟩
end Go.Proofs.YthbjhpfgfpkppaaDoor
