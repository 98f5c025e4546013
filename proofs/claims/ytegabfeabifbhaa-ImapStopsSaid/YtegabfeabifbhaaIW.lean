/-
  ImapStops: the walk.
-/
import Derived.Test.YtegabfeabifbhaaIL
namespace Go.Proofs.Ytegabfeabifbhaa
open Go Go.RowKit

set_option maxHeartbeats 2000000 in
theorem stops_clo (q p : Nat) (x y z m : Int) (a : Nat) (W : World) (ha : a ≤ 1000000) (hq : Box W q 3 (.int .i64 a)) (hp : W.cell? ⟨p, 0, none⟩ = some (.int .i64 m)) (hpz : p < W.heap.size) (hpq : p ≠ q) :
    Calls Try.prog 33 #[.agg #[.int .i64 x, .int .i64 y], .int .i64 z, .pointer (some ⟨q, 0, none⟩), .pointer (some ⟨p, 0, none⟩)] W fun e w' => e = .returned (.bool (decide ((a : Int) + 1 < m))) ∧ Box w' q 3 (.int .i64 (a + 1 : Nat)) ∧ But q W w' := by
  have e1 : Ext W (W.alloc (.cells #[.int .i64 x, .int .i64 y] 35)) := (Below.refl _ _).alloc (Nat.le_refl _) _
  have q0 := hq.cell
  have qf := hq.free
  have qz := hq.lt
  have hw : IntKind.i64.wrap ((a : Int) + 1) = (a : Int) + 1 := by rw [IntKind.wrap_i64]; omega
  have HB := Lib.hid hq
  clear hq e1
  go_enter Try.func33, Try.ntmps33
  go_wp2
  go_ret
  refine ⟨rfl, ?_, But.tr (But.setAt q 0 _ _) (But.ext ((Below.refl _ _).alloc (Nat.le_refl _) _))⟩
  have h := (HB.out.set (.int .i64 ((a : Int) + 1))).ext ((Below.refl _ _).alloc (Nat.le_refl _) (.cells #[.int .i64 x, .int .i64 y] 35))
  simpa using h

theorem RnAt.but {w W : World} {q base : Nat} {A : Option Addr} {n c : Nat} {l : List Rn} (h : OwnR w base (.slice A n c) l) (hq : q < base) (hb : But q w W) : RnAt W W.heap.size A l :=
  (RnAt.own (OwnR.kept' h hb (fun k hk e => by have := (World.ownsRow.lt h k hk).1; injection e with e; omega))).2.2

set_option maxHeartbeats 8000000 in
set_option maxRecDepth 100000 in
theorem walk_ImapStops (A : Option Addr) (n c : Nat) (l : List Ac) (k : Int) (w : World) (hn : l.length = n) (hmx : n ≤ maxLen) (hs : AcAt w w.heap.size A l) (wk : (Lit.int .u8 k).wf = true) :
    Calls Try.prog 9 #[.slice A n c, .int .u8 k] w fun e w' => e = .returned (.bool true) ∧ Below w.heap.size w w' := by
  have hmf : ∀ (fn : Fn) (first cap : Array Value) (w : World), (Instr.makeFunc fn first cap).run Try.prog w = .ok (.func fn first cap) w := fun _ _ _ _ => rfl
  obtain ⟨hk0, hk1⟩ : 0 ≤ k ∧ k ≤ 255 := by simp only [Lit.wf, Bool.and_eq_true, decide_eq_true_eq] at wk; exact wk
  clear wk
  have HS := Lib.hid hs
  have HN := Lib.hid hn
  clear hs hn
  have hmx' := hmx
  unfold maxLen at hmx'
  by_cases hbig : 40 < n
  · have hb : (40 : Int) < (n : Int) := by omega
    go_enter Try.func9, Try.ntmps9
    go_wp2_with fail
    with_reducible refine (alive_any _).mono ?_
    rintro e w1 ⟨rfl, hb1⟩
    go_wp2
    go_ret
    exact ⟨rfl, hb1⟩
  · have hb : ¬ ((40 : Int) < (n : Int)) := by omega
    go_enter Try.func9, Try.ntmps9
    go_wp2_with fail
    with_reducible refine (alive_any _).mono ?_
    rintro e w1 ⟨rfl, E1⟩
    go_wp2_with fail
    have hmd := made_any A n c l w1 HN.out (by omega) (HS.out.ext E1)
    with_reducible refine hmd.mono ?_
    rintro e w2 ⟨rfl, ⟨A2, n2, c2, hm2⟩, F2⟩
    clear hmd
    have E2 := Ext.tr E1 F2
    have hl2 := hm2.len
    have hle := actsI_len l (D := []) trivial
    generalize actsI [] l = D at *
    have M2 := Lib.hid hm2
    have hz12 := F2.size
    have hmz := hm2.box.lt
    have hn2 : n2 ≤ 1000 := by have := HN.out; simp at hle; omega
    clear hm2 F2 hle
    go_wp2_with fail
    have hlen := len_map _ _ _ _ w2 (Lists.map M2.out.box.cell M2.out.box.lt)
    with_reducible refine hlen.mono ?_
    rintro e w3 ⟨rfl, rfl⟩
    clear hlen
    rename World => w3
    by_cases h1 : n2 < 1
    · have hb2 : (n2 : Int) < 1 := by omega
      go_wp2
      go_ret
      exact ⟨rfl, E2⟩
    · have hb2 : ¬ ((n2 : Int) < 1) := by omega
      have hb3 : ¬ ((n2 : Int) = 0) := by omega
      obtain ⟨r, hr, hrm⟩ : ∃ r : Nat, k.tmod (n2 : Int) = r ∧ r < n2 := by
        refine ⟨(k.tmod n2).toNat, ?_, ?_⟩
        · have := Int.tmod_nonneg (n2 : Int) hk0; omega
        · have := Int.tmod_lt_of_pos k (show (0 : Int) < n2 by omega); have := Int.tmod_nonneg (n2 : Int) hk0; omega
      have hkw : IntKind.i64.wrap k = k := by rw [IntKind.wrap_i64]; omega
      have hrw : IntKind.i64.wrap (r : Int) = (r : Int) := by rw [IntKind.wrap_i64]; omega
      have hrw1 : IntKind.i64.wrap (1 + (r : Int)) = 1 + (r : Int) := by rw [IntKind.wrap_i64]; omega
      go_wp2_with fail
      have e4 : Ext w3 ((w3.alloc (.cells #[.int .i64 (1 + (r : Int))] 3)).alloc (.cells #[.int .i64 0] 3)) := ((Below.refl _ _).alloc (Nat.le_refl _) _).alloc (by simp) _
      have bp : Box ((w3.alloc (.cells #[.int .i64 (1 + (r : Int))] 3)).alloc (.cells #[.int .i64 0] 3)) w3.heap.size 3 (.int .i64 (1 + (r : Int))) := (Box.new w3 _ _).ext ((Below.refl _ _).alloc (Nat.le_refl _) _)
      have bq : Box ((w3.alloc (.cells #[.int .i64 (1 + (r : Int))] 3)).alloc (.cells #[.int .i64 0] 3)) (w3.heap.size + 1) 3 (.int .i64 0) := by
        have h := Box.new (w3.alloc (.cells #[.int .i64 (1 + (r : Int))] 3)) 3 (.int .i64 0)
        rw [World.size_alloc] at h; exact h
      have z4 : ((w3.alloc (.cells #[.int .i64 (1 + (r : Int))] 3)).alloc (.cells #[.int .i64 0] 3)).heap.size = w3.heap.size + 2 := by simp
      generalize (w3.alloc (.cells #[.int .i64 (1 + (r : Int))] 3)).alloc (.cells #[.int .i64 0] 3) = w4 at *
      have M4 := Lib.hid (M2.out.ext e4)
      have hA := All_map _ A2 n2 c2 D w4 (Lists.map M4.out.box.cell M4.out.box.lt) hl2 (by omega) M4.out.at_
      with_reducible refine hA.mono ?_
      rintro e w5 ⟨A5, c5, pf, rfl, hbx, hown, hpf, E5⟩
      clear hA
      have bp5 := Lib.hid (bp.ext E5)
      have bq5 := Lib.hid (bq.ext E5)
      have HBX := Lib.hid hbx; have HO := Lib.hid hown
      have hz5 := E5.size
      have EW := Ext.tr E2 (Ext.tr e4 E5)
      have hthr := thr_stops (fun j => decide ((j : Int) + 1 < 1 + (r : Int))) (fun j W => Box W (w3.heap.size + 1) 3 (.int .i64 j) ∧ But (w3.heap.size + 1) w5 W) #[.pointer (some ⟨w3.heap.size + 1, 0, none⟩), .pointer (some ⟨w3.heap.size, 0, none⟩)] pf A5 n2 c5 D hl2 (by omega)
        (fun j W o h => ⟨h.1.ext ((Below.refl _ _).alloc (Nat.le_refl _) o), But.tr h.2 (But.ext ((Below.refl _ _).alloc (Nat.le_refl _) o))⟩)
        (fun W h => (HBX.out.kept h.2 (fun e => by injection e with e; omega)).cell)
        (fun j W h => RnAt.but HO.out (by omega) h.2)
        (fun j hj W h => by
          have hb' := bp5.out.kept h.2 (fun e => by injection e with e; omega)
          refine (stops_clo (w3.heap.size + 1) w3.heap.size _ _ _ (1 + (r : Int)) j W (by omega) h.1 hb'.cell hb'.lt (by omega)).mono ?_
          rintro e w' ⟨h1, h2, h3⟩
          exact ⟨h1, h2, But.tr h.2 h3⟩) w5 ⟨bq5.out, But.ext (Ext.rf _)⟩
      have HT := Lib.hid hthr
      clear hthr hbx hown bp bq e4 M4
      go_wp2_with (go_at_call 59; refine (Hid.out HT).mono ?_; rintro e w6 ⟨rfl, a, ha, hg1, hg2, hI⟩; have k1 := hI.1.cell; have k2 := (bp5.out.kept hI.2 (fun e => by injection e with e; omega)).cell; have HI := Lib.hid hI; obtain rfl : a = r + 1 := (by
        rcases Nat.lt_trichotomy a (r + 1) with h | h | h
        · rcases hg2 with h' | ⟨h', h''⟩
          · omega
          · simp only [decide_eq_false_iff_not] at h''; omega
        · exact h
        · have h' := hg1 r (by omega)
          simp only [decide_eq_true_eq] at h'; omega); have hcast : ((r + 1 : Nat) : Int) = 1 + (r : Int) := (by omega); rw [hcast] at k1; clear hI hg1 hg2 hcast)
      go_ret
      exact ⟨rfl, EW.grown HI.out.2 EW.size (fun g e => by injection e with e; have := E2.size; omega)⟩
end Go.Proofs.Ytegabfeabifbhaa
