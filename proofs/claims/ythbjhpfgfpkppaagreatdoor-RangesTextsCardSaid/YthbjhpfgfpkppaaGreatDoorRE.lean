/-
  The reference's of: the spans of the bytes that an operation of two sets keeps.
-/
import Derived.Test.YthbjhpfgfpkppaaGreatDoorRD
import Derived.Test.YthbjhpfgfpkppaaGreatDoorRMath2
namespace Go.Proofs.YthbjhpfgfpkppaaGreatDoor
open Go Go.RowKit

def bopB (op : Int) (x y : Bool) : Bool := (decide (op = 1) && (x || y)) || (decide (op = 2) && x && y) || (decide (op = 3) && x && !y)
theorem bopB_ff (op : Int) : bopB op false false = false := by simp [bopB]
/-- which bytes an operation of two lists keeps -/
def keepB (op : Int) (a b : List Sp) (p : Int) : Bool := bopB op (anyHas a p) (anyHas b p)
theorem keep_edges (op : Int) (a b : List Sp) : EdgeOK (keepB op a b) (endsL (a ++ b)) :=
  edges_of (f := bopB op) (bopB_ff op) (anyHas a) (anyHas b) (fun _ => anyHas_iff) (fun _ => anyHas_iff) (fun _ => rfl)
/-- what of leaves -/
def OfPost (op : Int) (a b : List Sp) (w w' : World) (e : Ending) : Prop :=
  ∃ v out, e = .returned v ∧ IsSp w' v out ∧ Canon out ∧ (∀ p, InL out p ↔ keepB op a b p = true) ∧ out.length ≤ 2 * (a.length + b.length) ∧ Below w.heap.size w w'

theorem last_form {l : List Sp} (h : l ≠ []) : ∃ init y, l = init ++ [y] := ⟨l.dropLast, l.getLast h, (List.dropLast_concat_getLast h).symm⟩

theorem Below.own {w W : World} {base : Nat} {v : Value} {l : List Sp} (h : OwnS w base v l) (hb : Ext w W) : OwnS W base v l :=
  World.ownsRow.kept (row := none) h ⟨hb.os, hb.tape, hb.output, hb.size, fun k hk _ => hb.block k hk⟩ (by
    cases hv : v.ownBlock with
    | none => exact .inl rfl
    | some g => exact .inr (by simp))
theorem own_snocS {w : World} {base g cap n : Nat} {out : List Sp} {p q : Int} (hn : out.length = n) (h : w.ownsRow base 41 2 (.slice (some ⟨g, 0, none⟩) (n + 1) cap) (n + 1) (flat out ++ [.int .i64 p, .int .i64 q])) :
    OwnS w base (.slice (some ⟨g, 0, none⟩) (n + 1) cap) (out ++ [(p, q)]) := by
  subst hn
  have e : (out ++ [(p, q)]).length = out.length + 1 := by simp
  unfold OwnS
  rw [e, flat_append]
  exact h
theorem below_app_d {w W W1 : World} {B : Nat} {o : Obj} {v : Value} {e size n : Nat} {xs : List Value} (hbel : Below B w W) (hB : B ≤ W.heap.size) (hown : W.ownsRow B e size v n xs) (hg : ((W.alloc o).drew).grownBy W1 v.ownBlock) : Below B w W1 := by
  refine ((hbel.alloc hB o).drew).grown hg (by simp; omega) ?_
  intro k hk
  obtain ⟨_, ⟨rfl, _⟩ | ⟨g, cap, cur, rfl, hge, _⟩⟩ := hown
  · simp [Value.ownBlock] at hk
  · simp only [Value.ownBlock] at hk; injection hk with hk; omega
theorem flat_set {init : List Sp} {z1 z2 y : Int} {ml : Nat} (h : init.length = ml) : (flat (init ++ [(z1, z2)])).set (ml * 2 + 1) (.int .i64 y) = flat (init ++ [(z1, y)]) := by
  subst h
  rw [flat_append, flat_append, List.set_append_right _ _ (by rw [flat_len]; omega), flat_len, show init.length * 2 + 1 - init.length * 2 = 1 by omega]
  rfl
theorem own_set {w : World} {base g cap ml : Nat} {init : List Sp} {z1 z2 y : Int} (hn : init.length = ml) (h : OwnS w base (.slice (some ⟨g, 0, none⟩) (ml + 1) cap) (init ++ [(z1, z2)])) :
    OwnS (w.setCell ⟨g, ml * 2 + 1, none⟩ (.int .i64 y)) base (.slice (some ⟨g, 0, none⟩) (ml + 1) cap) (init ++ [(z1, y)]) := by
  have e1 : (init ++ [(z1, z2)]).length = ml + 1 := by simp [hn]
  have e2 : (init ++ [(z1, y)]).length = ml + 1 := by simp [hn]
  unfold OwnS at h ⊢
  rw [e1] at h
  rw [e2, ← flat_set hn]
  exact (World.ownsRow.stored h _ _).1
theorem own_raw {w : World} {base n : Nat} {v : Value} {l : List Sp} (hn : l.length = n) (h : OwnS w base v l) : w.ownsRow base 41 2 v n (flat l) := by subst hn; exact h
theorem bel' {B : Nat} {w W W' : World} (h : Below B w W) (hB : B ≤ W.heap.size) (e : Ext W W') : Below B w W' := h.trans (e.mono hB)

set_option maxHeartbeats 16000000 in
set_option maxRecDepth 100000 in
theorem of_any (op : Int) (hop : op = 1 ∨ op = 2 ∨ op = 3) (A A' : Option Addr) (c c' : Nat) (a b : List Sp) (w : World) (hm : a.length ≤ 100000) (hm' : b.length ≤ 100000) (hs : SpAt w w.heap.size A a) (hs' : SpAt w w.heap.size A' b) :
    Calls Tryz.prog 26 #[.slice A a.length c, .slice A' b.length c', .int .i64 op] w fun e w' => OfPost op a b w w' e := by
  have HE := ends_any A A' c c' a b w hm hm' hs hs'
  have HS := Lib.hid hs; have HS' := Lib.hid hs'
  clear hs hs'
  obtain ⟨i0, hi, hz0, hz1, hz2⟩ := info_parts infoSp
  have EK := Lib.hid (keep_edges op a b)
  have hel := endsL_len (a ++ b)
  rw [List.length_append] at hel
  go_enter Tryz.func26, Tryz.ntmps26
  go_wp2_with (go_at_call 47; refine HE.mono ?_; rintro e w1 ⟨ve, rfl, hin, B1⟩; obtain ⟨Ae, n, ce, rfl, HL, hce, hA⟩ := hin.split; clear HE hin; have HA := Lib.hid hA; clear hA)
  have hn : n ≤ 2 * (a.length + b.length) := by have := HL.out; omega
  clear hel
  generalize endsL (a ++ b) = E at *
  have hwz := B1.size
  go_loopw [7, 9] (fun v i wr => ∃ (k : Nat) (out : List Sp), i = .int .i64 k ∧ OwnS wr w1.heap.size v out ∧ out.length ≤ k ∧ k ≤ n ∧ Hid ((k < n ∨ (E = [] ∧ out = [])) ∧ OfR (keepB op a b) E k out) ∧ Below w1.heap.size w1 wr) (fun _ i _ => n - (intOf i).toNat)
  case atStart => exact ⟨0, [], rfl, World.ownsRow_nil _ _ _ _, by simp, Nat.zero_le _, ⟨by rcases Nat.eq_zero_or_pos n with h | h; exact .inr ⟨List.eq_nil_of_length_eq_zero (by rw [HL.out]; exact h), rfl⟩; exact .inl h, OfR.start EK.out⟩, Below.refl _ _⟩
  case round =>
    obtain ⟨k, out, rfl, hown, hol, hkn, HG, hbel⟩ := hrel
    by_cases hlt : k + 1 < n
    · have hk1 : k + 1 < E.length := by have := HL.out; omega
      have hk0 : k < E.length := by omega
      have hkn0 : k < n := by omega
      obtain ⟨be, oe, rfl, hbe, hc⟩ := (HA.out.below hbel (Nat.le_refl _)) (by omega)
      have c0 := hc k hk0
      have c1 := hc (k + 1) hk1
      clear hc
      have N0 := Lib.hid (OfR.no EK.out HG.out.2 hk1)
      have N1 := Lib.hid (OfR.more EK.out HG.out.2 hk1)
      have N2 := Lib.hid (fun init y (e : out = init ++ [y]) => OfR.ext EK.out (e ▸ HG.out.2) hk1)
      have NX := Lib.hid (fun q hq => (HG.out.2.2 hk0).1 q hq)
      have KE : Hid (keepB op a b E[k] = bopB op (anyHas a E[k]) (anyHas b E[k])) := rfl
      generalize E[k] = x at *
      generalize E[k + 1] = y at *
      obtain ⟨xb, HX⟩ : ∃ xb, Hid (anyHas a x = xb) := ⟨_, rfl⟩
      obtain ⟨yb, HY⟩ : ∃ yb, Hid (anyHas b x = yb) := ⟨_, rfl⟩
      have C0 := Lib.hid c0; have C1 := Lib.hid c1
      clear c1
      have hbz : be < wr.heap.size := by have := hbel.size; omega
      have k0 : ∀ W, Ext wr W → W.cell? ⟨be, oe + k, none⟩ = some (.int .i64 x) := fun W h => by rw [h.cell (p := ⟨be, oe + k, none⟩) hbz]; exact c0
      have cx : ∀ W, Ext wr W → Calls Tryz.prog 48 #[.slice A a.length c, .int .i64 x] W fun e w' => e = .returned (.bool xb) ∧ Below W.heap.size W w' := fun W h => by
        rw [← HX.out]; exact in_any A c a x W (by omega) (HS.out.below (bel (bel B1 hbel) h) (bel (bel B1 hbel) h).size)
      have cy : ∀ W, Ext wr W → Calls Tryz.prog 48 #[.slice A' b.length c', .int .i64 x] W fun e w' => e = .returned (.bool yb) ∧ Below W.heap.size W w' := fun W h => by
        rw [← HY.out]; exact in_any A' c' b x W (by omega) (HS'.out.below (bel (bel B1 hbel) h) (bel (bel B1 hbel) h).size)
      go_wp2_with fail
      refine' wp_region_made (rels := relsOf [.val _, .val _, .val _, .val _, .val _, .val _, .val _, .val _, .val _, .val _, .val _, .val _, .val _, .val _]) (w := wr) 107 (by kernel_rfl) (by kernel_rfl) (by rfl) (relsOf_stable ?st) ?wk
      case st => exact stable_val (stable_val (stable_val (stable_val (stable_val (stable_val (stable_val (stable_val (stable_val (stable_val (stable_val (stable_val (stable_val (stable_val (stable_nil))))))))))))))
      case wk =>
          refine' walk_val (by rfl) ?a0 (fun K hK => ?b0); (case a0 => (intro W hW hd; clear hd; go_simp; exact ⟨Ext.rf _, rfl⟩)); (go_simp; refine hK _ ?_; clear hK K)
          refine' walk_val (by rfl) ?a1 (fun K hK => ?b1); (case a1 => (intro W hW hd; clear hd; go_simp; exact ⟨Ext.rf _, rfl⟩)); (go_simp; refine hK _ ?_; clear hK K)
          refine' walk_val (by rfl) ?a2 (fun K hK => ?b2); (case a2 => (intro W hW hd; clear hd; go_simp; exact ⟨Ext.rf _, rfl⟩)); (go_simp; refine hK _ ?_; clear hK K)
          refine' walk_val (by rfl) ?a3 (fun K hK => ?b3); (case a3 => (intro W hW hd; clear hd; go_simp; exact ⟨Ext.rf _, rfl⟩)); (go_simp; refine hK _ ?_; clear hK K)
          refine' walk_val (by rfl) ?a4 (fun K hK => ?b4); (case a4 => (intro W hW hd; clear hd; go_simp; exact ⟨Ext.rf _, rfl⟩)); (go_simp; refine hK _ ?_; clear hK K)
          refine' walk_val (by rfl) ?a5 (fun K hK => ?b5); (case a5 => (intro W hW hd; go_simp; (clear hd; exact makes_val (cx W hW)))); (go_simp; refine hK _ ?_; clear hK K)
          refine' walk_val (by rfl) ?a6 (fun K hK => ?b6); (case a6 => (intro W hW hd; clear hd; go_simp; exact ⟨Ext.rf _, rfl⟩)); (go_simp; refine hK _ ?_; clear hK K)
          refine' walk_val (by rfl) ?a7 (fun K hK => ?b7); (case a7 => (intro W hW hd; clear hd; go_simp; exact ⟨Ext.rf _, rfl⟩)); (go_simp; refine hK _ ?_; clear hK K)
          refine' walk_val (by rfl) ?a8 (fun K hK => ?b8); (case a8 => (intro W hW hd; clear hd; go_simp; exact ⟨Ext.rf _, rfl⟩)); (go_simp; refine hK _ ?_; clear hK K)
          refine' walk_val (by rfl) ?a9 (fun K hK => ?b9); (case a9 => (intro W hW hd; clear hd; go_simp; exact ⟨Ext.rf _, rfl⟩)); (go_simp; refine hK _ ?_; clear hK K)
          refine' walk_val (by rfl) ?a10 (fun K hK => ?b10); (case a10 => (intro W hW hd; clear hd; go_simp; exact ⟨Ext.rf _, rfl⟩)); (go_simp; refine hK _ ?_; clear hK K)
          refine' walk_val (by rfl) ?a11 (fun K hK => ?b11); (case a11 => (intro W hW hd; go_simp; (clear hd; exact makes_val (cy W hW)))); (go_simp; refine hK _ ?_; clear hK K)
          refine' walk_val (by rfl) ?a12 (fun K hK => ?b12); (case a12 => (intro W hW hd; clear hd; go_simp; exact ⟨Ext.rf _, rfl⟩)); (go_simp; refine hK _ ?_; clear hK K)
          refine' walk_val (by rfl) ?a13 (fun K hK => ?b13); (case a13 => (intro W hW hd; clear hd; go_simp; exact ⟨Ext.rf _, rfl⟩)); (go_simp; refine hK _ ?_; clear hK K)
          refine walk_end (fun W hW hfin => ?_)
          clear hfin k0 cx cy
          have hin : Hid (keepB op a b x = bopB op xb yb) := by unfold Hid; rw [KE.out, HX.out, HY.out]
          clear KE HX HY
          go_simp
          rcases hop with rfl | rfl | rfl <;> cases xb <;> cases yb
          · have HF := Lib.hid (N0.out hin.out)
            clear N0 N1 N2 HG hin
            go_wp2
            go_roundw
            case rel => exact ⟨k + 1, out, by go_num, Below.own hown hW, by omega, by omega, ⟨.inl hlt, HF.out⟩, bel' hbel hbel.size hW⟩
            case measure => simp [intOf]; omega
          · have hkt : Hid (keepB 1 a b x = true) := hin.out
            clear hin
            by_cases ho : out = []
            · subst ho
              have HF := Lib.hid (N1.out hkt.out (by simp))
              clear N0 N1 N2 HG hkt
              obtain ⟨Av, nv, cv, rfl, HLv, hcv, -⟩ := (IsSp.own hown).split
              obtain rfl : nv = 0 := by simpa using HLv.out.symm
              clear HLv
              go_wp2_with fail
              go_quiet (fail)
              have e2 := below_drewN hW nq
              generalize W.drewN nq = W2 at e2 ⊢
              clear hW
              have B2 := bel' hbel hbel.size e2
              have own2 := Below.own hown e2
              have hB := B2.size
              skip
              have x0 : W2.cell? ⟨be, oe + k, none⟩ = some (.int .i64 x) := by rw [e2.cell (p := ⟨be, oe + k, none⟩) hbz]; exact C0.out
              have x1 : W2.cell? ⟨be, oe + (k + 1), none⟩ = some (.int .i64 y) := by rw [e2.cell (p := ⟨be, oe + (k + 1), none⟩) hbz]; exact C1.out
              have ag := own_ne own2 hbe
              clear e2 hown hbel
              have q1 : IntKind.i64.wrap ((k : Int) + 1) = (k : Int) + 1 := IntWalk.i64_in _ (by omega)
              have q2 : (0 : Int) ≤ (k : Int) + 1 := by omega
              have q3 : ((k : Int) + 1).toNat = k + 1 := by omega
              have q4 : (k : Int) + 1 < (n : Int) := by omega
              have q5 : (k : Int) < (n : Int) := by omega
              have q6 : (0 : Int) ≤ (k : Int) := by omega
              go_wp2_with fail
              go_region_held3 (fun w' => w'.cell? ⟨be, oe + k, none⟩ = some (.int .i64 x) ∧ w'.cell? ⟨be, oe + (k + 1), none⟩ = some (.int .i64 y)) (first | go_keep | (go_split_ands; refine ⟨?_, ?_⟩ <;> (rw [hgrow.cell_far _ (by simp; omega) (Ne.symm ag)]; assumption))) ((refine step_append_lies _ (by rfl) _ _ _ (by rfl) w1.heap.size 41 i0 _ 2 16 Tryz.underlying22 hi hz0 hz1 hz2 rfl (by omega) _ 0 (flat []) (by rfl) ((World.ownsRow.alloc own2 _).drew) ⟨W2.heap.size, 0, none⟩ 1 1 [.int .i64 x, .int .i64 y] (by rfl) (by rfl) (World.news_of_block (cs := #[.int .i64 x, .int .i64 y]) (t := 41) (fr := (0, 0)) (heap_alloc_new W2 _)) (by simp [Value.oneCell']) (by omega) (by unfold maxLen; omega) (by omega) (by simp; omega) (W2.heap.size + 1) (by simp) ?_; intro g1 cap1 w3 hown1 hgrow hat hltw))
              have B3 := below_app_d B2 hB own2 hgrow
              clear q1 q2 q3 q4 q5 q6 hgrow hat hltw x0 x1 ag own2 B2
              go_wp2_with fail
              go_roundw
              case rel => exact ⟨k + 1, [] ++ [(x, y)], by go_num, own_snocS rfl hown1, by simp, by omega, ⟨.inl hlt, HF.out⟩, B3⟩
              case measure => simp [intOf]; omega
            · obtain ⟨init, z, rfl⟩ := last_form ho
              clear ho
              obtain ⟨g, cv, rfl, hgb, hgl⟩ := World.ownsRow.form hown (by simp)
              have hml : (init ++ [z]).length = init.length + 1 := by simp
              rw [hml] at hol
              have hcz : wr.cell? ⟨g, init.length * 2 + 1, none⟩ = some (.int .i64 z.2) := by rw [World.ownsRow.cellAt hown _ (by simp; omega)]; simpa using flat_get1 (init ++ [z]) init.length (by simp)
              have hgz : g < wr.heap.size := hgl
              obtain ⟨z1, z2⟩ := z
              have c2' : W.cell? ⟨g, init.length * 2 + 1, none⟩ = some (.int .i64 z2) := by rw [hW.cell (p := ⟨g, init.length * 2 + 1, none⟩) hgz]; exact hcz
              have c0' : W.cell? ⟨be, oe + k, none⟩ = some (.int .i64 x) := by rw [hW.cell (p := ⟨be, oe + k, none⟩) hbz]; exact C0.out
              clear hcz
              have HO : Hid (OwnS wr w1.heap.size (.slice (some ⟨g, 0, none⟩) (init.length + 1) cv) (init ++ [(z1, z2)])) := by rw [← hml]; exact hown
              rw [hml]
              clear hml hown
              generalize hil : init.length = ml at *
              have HIL := Lib.hid hil
              clear hil
              by_cases hz : z2 = x
              · subst hz
                have HF := Lib.hid (N2.out init _ rfl hkt.out rfl)
                clear N0 N1 N2 HG hkt
                go_wp2_with fail
                go_quiet (fail)
                have e2 := below_drewN hW nq
                generalize W.drewN nq = W2 at e2 ⊢
                clear hW c2' c0'
                have own2 := Below.own HO.out e2
                have o2 := own_raw (n := ml + 1) (by simp [HIL.out]) own2
                have B2 := bel' hbel hbel.size e2
                have x1 : W2.cell? ⟨be, oe + (k + 1), none⟩ = some (.int .i64 y) := by rw [e2.cell (p := ⟨be, oe + (k + 1), none⟩) hbz]; exact C1.out
                have x2 : W2.cell? ⟨g, ml * 2 + 1, none⟩ = some (.int .i64 z2) := by rw [World.ownsRow.cellAt o2 _ (by omega), ← HIL.out]; simpa using flat_get1 (init ++ [(z1, z2)]) init.length (by simp)
                have x3 := World.ownsRow.frozenAt o2 (ml * 2 + 1)
                have HST := Lib.hid (own_set HIL.out own2 (y := y))
                have HB3 : Hid (Below w1.heap.size w1 (W2.setCell ⟨g, ml * 2 + 1, none⟩ (.int .i64 y))) := B2.setCell hgb _
                clear own2 o2 e2 B2 HO hbel
                go_wp2
                go_roundw
                case rel => exact ⟨k + 1, init ++ [(z1, y)], by go_num, HST.out, by simp; have := HIL.out; omega, by omega, ⟨.inl hlt, HF.out⟩, HB3.out⟩
                case measure => simp [intOf]; omega
              · have HF := Lib.hid (N1.out hkt.out (fun q hq => by
                  rcases List.mem_append.1 hq with hq | hq
                  · have h1 := (HG.out.2.1).le_end q hq
                    have h2 := NX.out (z1, z2) (by simp)
                    have h3 := (HG.out.2.1).1 (z1, z2) (by simp)
                    unfold Solid at h3; simp only at h1 h2 h3; omega
                  · simp at hq; subst hq; exact hz))
                clear N0 N1 N2 HG hkt
                go_wp2_with fail
                go_quiet (fail)
                have e2 := below_drewN hW nq
                generalize W.drewN nq = W2 at e2 ⊢
                clear hW c2' c0'
                have hown := HO.out
                clear HO
                have B2 := bel' hbel hbel.size e2
                have own2 := Below.own hown e2
                have hB := B2.size
                have o2 := own_raw (n := ml + 1) (by simp [HIL.out]) own2
                have x0 : W2.cell? ⟨be, oe + k, none⟩ = some (.int .i64 x) := by rw [e2.cell (p := ⟨be, oe + k, none⟩) hbz]; exact C0.out
                have x1 : W2.cell? ⟨be, oe + (k + 1), none⟩ = some (.int .i64 y) := by rw [e2.cell (p := ⟨be, oe + (k + 1), none⟩) hbz]; exact C1.out
                have ag := own_ne own2 hbe
                clear e2 hown hbel
                have q1 : IntKind.i64.wrap ((k : Int) + 1) = (k : Int) + 1 := IntWalk.i64_in _ (by omega)
                have q2 : (0 : Int) ≤ (k : Int) + 1 := by omega
                have q3 : ((k : Int) + 1).toNat = k + 1 := by omega
                have q4 : (k : Int) + 1 < (n : Int) := by omega
                have q5 : (k : Int) < (n : Int) := by omega
                have q6 : (0 : Int) ≤ (k : Int) := by omega
                go_wp2_with fail
                go_region_held3 (fun w' => w'.cell? ⟨be, oe + k, none⟩ = some (.int .i64 x) ∧ w'.cell? ⟨be, oe + (k + 1), none⟩ = some (.int .i64 y)) (first | go_keep | (go_split_ands; refine ⟨?_, ?_⟩ <;> (rw [hgrow.cell_far _ (by simp; omega) (Ne.symm ag)]; assumption))) ((refine step_append_lies _ (by rfl) _ _ _ (by rfl) w1.heap.size 41 i0 _ 2 16 Tryz.underlying22 hi hz0 hz1 hz2 rfl (by omega) _ (ml + 1) (flat (init ++ [(z1, z2)])) (by rfl) ((World.ownsRow.alloc o2 _).drew) ⟨W2.heap.size, 0, none⟩ 1 1 [.int .i64 x, .int .i64 y] (by rfl) (by rfl) (World.news_of_block (cs := #[.int .i64 x, .int .i64 y]) (t := 41) (fr := (0, 0)) (heap_alloc_new W2 _)) (by simp [Value.oneCell']) (by omega) (by unfold maxLen; omega) (by omega) (by simp; omega) (W2.heap.size + 1) (by simp) ?_; intro g1 cap1 w3 hown1 hgrow hat hltw))
                have B3 := below_app_d B2 hB own2 hgrow
                clear q1 q2 q3 q4 q5 q6 hgrow hat hltw x0 x1 ag own2 B2
                go_wp2_with fail
                go_roundw
                case rel => exact ⟨k + 1, (init ++ [(z1, z2)]) ++ [(x, y)], by go_num, own_snocS (by simp [HIL.out]) hown1, by simp; have := HIL.out; omega, by omega, ⟨.inl hlt, HF.out⟩, B3⟩
                case measure => simp [intOf]; omega
          · have hkt : Hid (keepB 1 a b x = true) := hin.out
            clear hin
            by_cases ho : out = []
            · subst ho
              have HF := Lib.hid (N1.out hkt.out (by simp))
              clear N0 N1 N2 HG hkt
              obtain ⟨Av, nv, cv, rfl, HLv, hcv, -⟩ := (IsSp.own hown).split
              obtain rfl : nv = 0 := by simpa using HLv.out.symm
              clear HLv
              go_wp2_with fail
              go_quiet (fail)
              have e2 := below_drewN hW nq
              generalize W.drewN nq = W2 at e2 ⊢
              clear hW
              have B2 := bel' hbel hbel.size e2
              have own2 := Below.own hown e2
              have hB := B2.size
              skip
              have x0 : W2.cell? ⟨be, oe + k, none⟩ = some (.int .i64 x) := by rw [e2.cell (p := ⟨be, oe + k, none⟩) hbz]; exact C0.out
              have x1 : W2.cell? ⟨be, oe + (k + 1), none⟩ = some (.int .i64 y) := by rw [e2.cell (p := ⟨be, oe + (k + 1), none⟩) hbz]; exact C1.out
              have ag := own_ne own2 hbe
              clear e2 hown hbel
              have q1 : IntKind.i64.wrap ((k : Int) + 1) = (k : Int) + 1 := IntWalk.i64_in _ (by omega)
              have q2 : (0 : Int) ≤ (k : Int) + 1 := by omega
              have q3 : ((k : Int) + 1).toNat = k + 1 := by omega
              have q4 : (k : Int) + 1 < (n : Int) := by omega
              have q5 : (k : Int) < (n : Int) := by omega
              have q6 : (0 : Int) ≤ (k : Int) := by omega
              go_wp2_with fail
              go_region_held3 (fun w' => w'.cell? ⟨be, oe + k, none⟩ = some (.int .i64 x) ∧ w'.cell? ⟨be, oe + (k + 1), none⟩ = some (.int .i64 y)) (first | go_keep | (go_split_ands; refine ⟨?_, ?_⟩ <;> (rw [hgrow.cell_far _ (by simp; omega) (Ne.symm ag)]; assumption))) ((refine step_append_lies _ (by rfl) _ _ _ (by rfl) w1.heap.size 41 i0 _ 2 16 Tryz.underlying22 hi hz0 hz1 hz2 rfl (by omega) _ 0 (flat []) (by rfl) ((World.ownsRow.alloc own2 _).drew) ⟨W2.heap.size, 0, none⟩ 1 1 [.int .i64 x, .int .i64 y] (by rfl) (by rfl) (World.news_of_block (cs := #[.int .i64 x, .int .i64 y]) (t := 41) (fr := (0, 0)) (heap_alloc_new W2 _)) (by simp [Value.oneCell']) (by omega) (by unfold maxLen; omega) (by omega) (by simp; omega) (W2.heap.size + 1) (by simp) ?_; intro g1 cap1 w3 hown1 hgrow hat hltw))
              have B3 := below_app_d B2 hB own2 hgrow
              clear q1 q2 q3 q4 q5 q6 hgrow hat hltw x0 x1 ag own2 B2
              go_wp2_with fail
              go_roundw
              case rel => exact ⟨k + 1, [] ++ [(x, y)], by go_num, own_snocS rfl hown1, by simp, by omega, ⟨.inl hlt, HF.out⟩, B3⟩
              case measure => simp [intOf]; omega
            · obtain ⟨init, z, rfl⟩ := last_form ho
              clear ho
              obtain ⟨g, cv, rfl, hgb, hgl⟩ := World.ownsRow.form hown (by simp)
              have hml : (init ++ [z]).length = init.length + 1 := by simp
              rw [hml] at hol
              have hcz : wr.cell? ⟨g, init.length * 2 + 1, none⟩ = some (.int .i64 z.2) := by rw [World.ownsRow.cellAt hown _ (by simp; omega)]; simpa using flat_get1 (init ++ [z]) init.length (by simp)
              have hgz : g < wr.heap.size := hgl
              obtain ⟨z1, z2⟩ := z
              have c2' : W.cell? ⟨g, init.length * 2 + 1, none⟩ = some (.int .i64 z2) := by rw [hW.cell (p := ⟨g, init.length * 2 + 1, none⟩) hgz]; exact hcz
              have c0' : W.cell? ⟨be, oe + k, none⟩ = some (.int .i64 x) := by rw [hW.cell (p := ⟨be, oe + k, none⟩) hbz]; exact C0.out
              clear hcz
              have HO : Hid (OwnS wr w1.heap.size (.slice (some ⟨g, 0, none⟩) (init.length + 1) cv) (init ++ [(z1, z2)])) := by rw [← hml]; exact hown
              rw [hml]
              clear hml hown
              generalize hil : init.length = ml at *
              have HIL := Lib.hid hil
              clear hil
              by_cases hz : z2 = x
              · subst hz
                have HF := Lib.hid (N2.out init _ rfl hkt.out rfl)
                clear N0 N1 N2 HG hkt
                go_wp2_with fail
                go_quiet (fail)
                have e2 := below_drewN hW nq
                generalize W.drewN nq = W2 at e2 ⊢
                clear hW c2' c0'
                have own2 := Below.own HO.out e2
                have o2 := own_raw (n := ml + 1) (by simp [HIL.out]) own2
                have B2 := bel' hbel hbel.size e2
                have x1 : W2.cell? ⟨be, oe + (k + 1), none⟩ = some (.int .i64 y) := by rw [e2.cell (p := ⟨be, oe + (k + 1), none⟩) hbz]; exact C1.out
                have x2 : W2.cell? ⟨g, ml * 2 + 1, none⟩ = some (.int .i64 z2) := by rw [World.ownsRow.cellAt o2 _ (by omega), ← HIL.out]; simpa using flat_get1 (init ++ [(z1, z2)]) init.length (by simp)
                have x3 := World.ownsRow.frozenAt o2 (ml * 2 + 1)
                have HST := Lib.hid (own_set HIL.out own2 (y := y))
                have HB3 : Hid (Below w1.heap.size w1 (W2.setCell ⟨g, ml * 2 + 1, none⟩ (.int .i64 y))) := B2.setCell hgb _
                clear own2 o2 e2 B2 HO hbel
                go_wp2
                go_roundw
                case rel => exact ⟨k + 1, init ++ [(z1, y)], by go_num, HST.out, by simp; have := HIL.out; omega, by omega, ⟨.inl hlt, HF.out⟩, HB3.out⟩
                case measure => simp [intOf]; omega
              · have HF := Lib.hid (N1.out hkt.out (fun q hq => by
                  rcases List.mem_append.1 hq with hq | hq
                  · have h1 := (HG.out.2.1).le_end q hq
                    have h2 := NX.out (z1, z2) (by simp)
                    have h3 := (HG.out.2.1).1 (z1, z2) (by simp)
                    unfold Solid at h3; simp only at h1 h2 h3; omega
                  · simp at hq; subst hq; exact hz))
                clear N0 N1 N2 HG hkt
                go_wp2_with fail
                go_quiet (fail)
                have e2 := below_drewN hW nq
                generalize W.drewN nq = W2 at e2 ⊢
                clear hW c2' c0'
                have hown := HO.out
                clear HO
                have B2 := bel' hbel hbel.size e2
                have own2 := Below.own hown e2
                have hB := B2.size
                have o2 := own_raw (n := ml + 1) (by simp [HIL.out]) own2
                have x0 : W2.cell? ⟨be, oe + k, none⟩ = some (.int .i64 x) := by rw [e2.cell (p := ⟨be, oe + k, none⟩) hbz]; exact C0.out
                have x1 : W2.cell? ⟨be, oe + (k + 1), none⟩ = some (.int .i64 y) := by rw [e2.cell (p := ⟨be, oe + (k + 1), none⟩) hbz]; exact C1.out
                have ag := own_ne own2 hbe
                clear e2 hown hbel
                have q1 : IntKind.i64.wrap ((k : Int) + 1) = (k : Int) + 1 := IntWalk.i64_in _ (by omega)
                have q2 : (0 : Int) ≤ (k : Int) + 1 := by omega
                have q3 : ((k : Int) + 1).toNat = k + 1 := by omega
                have q4 : (k : Int) + 1 < (n : Int) := by omega
                have q5 : (k : Int) < (n : Int) := by omega
                have q6 : (0 : Int) ≤ (k : Int) := by omega
                go_wp2_with fail
                go_region_held3 (fun w' => w'.cell? ⟨be, oe + k, none⟩ = some (.int .i64 x) ∧ w'.cell? ⟨be, oe + (k + 1), none⟩ = some (.int .i64 y)) (first | go_keep | (go_split_ands; refine ⟨?_, ?_⟩ <;> (rw [hgrow.cell_far _ (by simp; omega) (Ne.symm ag)]; assumption))) ((refine step_append_lies _ (by rfl) _ _ _ (by rfl) w1.heap.size 41 i0 _ 2 16 Tryz.underlying22 hi hz0 hz1 hz2 rfl (by omega) _ (ml + 1) (flat (init ++ [(z1, z2)])) (by rfl) ((World.ownsRow.alloc o2 _).drew) ⟨W2.heap.size, 0, none⟩ 1 1 [.int .i64 x, .int .i64 y] (by rfl) (by rfl) (World.news_of_block (cs := #[.int .i64 x, .int .i64 y]) (t := 41) (fr := (0, 0)) (heap_alloc_new W2 _)) (by simp [Value.oneCell']) (by omega) (by unfold maxLen; omega) (by omega) (by simp; omega) (W2.heap.size + 1) (by simp) ?_; intro g1 cap1 w3 hown1 hgrow hat hltw))
                have B3 := below_app_d B2 hB own2 hgrow
                clear q1 q2 q3 q4 q5 q6 hgrow hat hltw x0 x1 ag own2 B2
                go_wp2_with fail
                go_roundw
                case rel => exact ⟨k + 1, (init ++ [(z1, z2)]) ++ [(x, y)], by go_num, own_snocS (by simp [HIL.out]) hown1, by simp; have := HIL.out; omega, by omega, ⟨.inl hlt, HF.out⟩, B3⟩
                case measure => simp [intOf]; omega
          · have hkt : Hid (keepB 1 a b x = true) := hin.out
            clear hin
            by_cases ho : out = []
            · subst ho
              have HF := Lib.hid (N1.out hkt.out (by simp))
              clear N0 N1 N2 HG hkt
              obtain ⟨Av, nv, cv, rfl, HLv, hcv, -⟩ := (IsSp.own hown).split
              obtain rfl : nv = 0 := by simpa using HLv.out.symm
              clear HLv
              go_wp2_with fail
              go_quiet (fail)
              have e2 := below_drewN hW nq
              generalize W.drewN nq = W2 at e2 ⊢
              clear hW
              have B2 := bel' hbel hbel.size e2
              have own2 := Below.own hown e2
              have hB := B2.size
              skip
              have x0 : W2.cell? ⟨be, oe + k, none⟩ = some (.int .i64 x) := by rw [e2.cell (p := ⟨be, oe + k, none⟩) hbz]; exact C0.out
              have x1 : W2.cell? ⟨be, oe + (k + 1), none⟩ = some (.int .i64 y) := by rw [e2.cell (p := ⟨be, oe + (k + 1), none⟩) hbz]; exact C1.out
              have ag := own_ne own2 hbe
              clear e2 hown hbel
              have q1 : IntKind.i64.wrap ((k : Int) + 1) = (k : Int) + 1 := IntWalk.i64_in _ (by omega)
              have q2 : (0 : Int) ≤ (k : Int) + 1 := by omega
              have q3 : ((k : Int) + 1).toNat = k + 1 := by omega
              have q4 : (k : Int) + 1 < (n : Int) := by omega
              have q5 : (k : Int) < (n : Int) := by omega
              have q6 : (0 : Int) ≤ (k : Int) := by omega
              go_wp2_with fail
              go_region_held3 (fun w' => w'.cell? ⟨be, oe + k, none⟩ = some (.int .i64 x) ∧ w'.cell? ⟨be, oe + (k + 1), none⟩ = some (.int .i64 y)) (first | go_keep | (go_split_ands; refine ⟨?_, ?_⟩ <;> (rw [hgrow.cell_far _ (by simp; omega) (Ne.symm ag)]; assumption))) ((refine step_append_lies _ (by rfl) _ _ _ (by rfl) w1.heap.size 41 i0 _ 2 16 Tryz.underlying22 hi hz0 hz1 hz2 rfl (by omega) _ 0 (flat []) (by rfl) ((World.ownsRow.alloc own2 _).drew) ⟨W2.heap.size, 0, none⟩ 1 1 [.int .i64 x, .int .i64 y] (by rfl) (by rfl) (World.news_of_block (cs := #[.int .i64 x, .int .i64 y]) (t := 41) (fr := (0, 0)) (heap_alloc_new W2 _)) (by simp [Value.oneCell']) (by omega) (by unfold maxLen; omega) (by omega) (by simp; omega) (W2.heap.size + 1) (by simp) ?_; intro g1 cap1 w3 hown1 hgrow hat hltw))
              have B3 := below_app_d B2 hB own2 hgrow
              clear q1 q2 q3 q4 q5 q6 hgrow hat hltw x0 x1 ag own2 B2
              go_wp2_with fail
              go_roundw
              case rel => exact ⟨k + 1, [] ++ [(x, y)], by go_num, own_snocS rfl hown1, by simp, by omega, ⟨.inl hlt, HF.out⟩, B3⟩
              case measure => simp [intOf]; omega
            · obtain ⟨init, z, rfl⟩ := last_form ho
              clear ho
              obtain ⟨g, cv, rfl, hgb, hgl⟩ := World.ownsRow.form hown (by simp)
              have hml : (init ++ [z]).length = init.length + 1 := by simp
              rw [hml] at hol
              have hcz : wr.cell? ⟨g, init.length * 2 + 1, none⟩ = some (.int .i64 z.2) := by rw [World.ownsRow.cellAt hown _ (by simp; omega)]; simpa using flat_get1 (init ++ [z]) init.length (by simp)
              have hgz : g < wr.heap.size := hgl
              obtain ⟨z1, z2⟩ := z
              have c2' : W.cell? ⟨g, init.length * 2 + 1, none⟩ = some (.int .i64 z2) := by rw [hW.cell (p := ⟨g, init.length * 2 + 1, none⟩) hgz]; exact hcz
              have c0' : W.cell? ⟨be, oe + k, none⟩ = some (.int .i64 x) := by rw [hW.cell (p := ⟨be, oe + k, none⟩) hbz]; exact C0.out
              clear hcz
              have HO : Hid (OwnS wr w1.heap.size (.slice (some ⟨g, 0, none⟩) (init.length + 1) cv) (init ++ [(z1, z2)])) := by rw [← hml]; exact hown
              rw [hml]
              clear hml hown
              generalize hil : init.length = ml at *
              have HIL := Lib.hid hil
              clear hil
              by_cases hz : z2 = x
              · subst hz
                have HF := Lib.hid (N2.out init _ rfl hkt.out rfl)
                clear N0 N1 N2 HG hkt
                go_wp2_with fail
                go_quiet (fail)
                have e2 := below_drewN hW nq
                generalize W.drewN nq = W2 at e2 ⊢
                clear hW c2' c0'
                have own2 := Below.own HO.out e2
                have o2 := own_raw (n := ml + 1) (by simp [HIL.out]) own2
                have B2 := bel' hbel hbel.size e2
                have x1 : W2.cell? ⟨be, oe + (k + 1), none⟩ = some (.int .i64 y) := by rw [e2.cell (p := ⟨be, oe + (k + 1), none⟩) hbz]; exact C1.out
                have x2 : W2.cell? ⟨g, ml * 2 + 1, none⟩ = some (.int .i64 z2) := by rw [World.ownsRow.cellAt o2 _ (by omega), ← HIL.out]; simpa using flat_get1 (init ++ [(z1, z2)]) init.length (by simp)
                have x3 := World.ownsRow.frozenAt o2 (ml * 2 + 1)
                have HST := Lib.hid (own_set HIL.out own2 (y := y))
                have HB3 : Hid (Below w1.heap.size w1 (W2.setCell ⟨g, ml * 2 + 1, none⟩ (.int .i64 y))) := B2.setCell hgb _
                clear own2 o2 e2 B2 HO hbel
                go_wp2
                go_roundw
                case rel => exact ⟨k + 1, init ++ [(z1, y)], by go_num, HST.out, by simp; have := HIL.out; omega, by omega, ⟨.inl hlt, HF.out⟩, HB3.out⟩
                case measure => simp [intOf]; omega
              · have HF := Lib.hid (N1.out hkt.out (fun q hq => by
                  rcases List.mem_append.1 hq with hq | hq
                  · have h1 := (HG.out.2.1).le_end q hq
                    have h2 := NX.out (z1, z2) (by simp)
                    have h3 := (HG.out.2.1).1 (z1, z2) (by simp)
                    unfold Solid at h3; simp only at h1 h2 h3; omega
                  · simp at hq; subst hq; exact hz))
                clear N0 N1 N2 HG hkt
                go_wp2_with fail
                go_quiet (fail)
                have e2 := below_drewN hW nq
                generalize W.drewN nq = W2 at e2 ⊢
                clear hW c2' c0'
                have hown := HO.out
                clear HO
                have B2 := bel' hbel hbel.size e2
                have own2 := Below.own hown e2
                have hB := B2.size
                have o2 := own_raw (n := ml + 1) (by simp [HIL.out]) own2
                have x0 : W2.cell? ⟨be, oe + k, none⟩ = some (.int .i64 x) := by rw [e2.cell (p := ⟨be, oe + k, none⟩) hbz]; exact C0.out
                have x1 : W2.cell? ⟨be, oe + (k + 1), none⟩ = some (.int .i64 y) := by rw [e2.cell (p := ⟨be, oe + (k + 1), none⟩) hbz]; exact C1.out
                have ag := own_ne own2 hbe
                clear e2 hown hbel
                have q1 : IntKind.i64.wrap ((k : Int) + 1) = (k : Int) + 1 := IntWalk.i64_in _ (by omega)
                have q2 : (0 : Int) ≤ (k : Int) + 1 := by omega
                have q3 : ((k : Int) + 1).toNat = k + 1 := by omega
                have q4 : (k : Int) + 1 < (n : Int) := by omega
                have q5 : (k : Int) < (n : Int) := by omega
                have q6 : (0 : Int) ≤ (k : Int) := by omega
                go_wp2_with fail
                go_region_held3 (fun w' => w'.cell? ⟨be, oe + k, none⟩ = some (.int .i64 x) ∧ w'.cell? ⟨be, oe + (k + 1), none⟩ = some (.int .i64 y)) (first | go_keep | (go_split_ands; refine ⟨?_, ?_⟩ <;> (rw [hgrow.cell_far _ (by simp; omega) (Ne.symm ag)]; assumption))) ((refine step_append_lies _ (by rfl) _ _ _ (by rfl) w1.heap.size 41 i0 _ 2 16 Tryz.underlying22 hi hz0 hz1 hz2 rfl (by omega) _ (ml + 1) (flat (init ++ [(z1, z2)])) (by rfl) ((World.ownsRow.alloc o2 _).drew) ⟨W2.heap.size, 0, none⟩ 1 1 [.int .i64 x, .int .i64 y] (by rfl) (by rfl) (World.news_of_block (cs := #[.int .i64 x, .int .i64 y]) (t := 41) (fr := (0, 0)) (heap_alloc_new W2 _)) (by simp [Value.oneCell']) (by omega) (by unfold maxLen; omega) (by omega) (by simp; omega) (W2.heap.size + 1) (by simp) ?_; intro g1 cap1 w3 hown1 hgrow hat hltw))
                have B3 := below_app_d B2 hB own2 hgrow
                clear q1 q2 q3 q4 q5 q6 hgrow hat hltw x0 x1 ag own2 B2
                go_wp2_with fail
                go_roundw
                case rel => exact ⟨k + 1, (init ++ [(z1, z2)]) ++ [(x, y)], by go_num, own_snocS (by simp [HIL.out]) hown1, by simp; have := HIL.out; omega, by omega, ⟨.inl hlt, HF.out⟩, B3⟩
                case measure => simp [intOf]; omega
          · have HF := Lib.hid (N0.out hin.out)
            clear N0 N1 N2 HG hin
            go_wp2
            go_roundw
            case rel => exact ⟨k + 1, out, by go_num, Below.own hown hW, by omega, by omega, ⟨.inl hlt, HF.out⟩, bel' hbel hbel.size hW⟩
            case measure => simp [intOf]; omega
          · have HF := Lib.hid (N0.out hin.out)
            clear N0 N1 N2 HG hin
            go_wp2
            go_roundw
            case rel => exact ⟨k + 1, out, by go_num, Below.own hown hW, by omega, by omega, ⟨.inl hlt, HF.out⟩, bel' hbel hbel.size hW⟩
            case measure => simp [intOf]; omega
          · have HF := Lib.hid (N0.out hin.out)
            clear N0 N1 N2 HG hin
            go_wp2
            go_roundw
            case rel => exact ⟨k + 1, out, by go_num, Below.own hown hW, by omega, by omega, ⟨.inl hlt, HF.out⟩, bel' hbel hbel.size hW⟩
            case measure => simp [intOf]; omega
          · have hkt : Hid (keepB 2 a b x = true) := hin.out
            clear hin
            by_cases ho : out = []
            · subst ho
              have HF := Lib.hid (N1.out hkt.out (by simp))
              clear N0 N1 N2 HG hkt
              obtain ⟨Av, nv, cv, rfl, HLv, hcv, -⟩ := (IsSp.own hown).split
              obtain rfl : nv = 0 := by simpa using HLv.out.symm
              clear HLv
              go_wp2_with fail
              go_quiet (fail)
              have e2 := below_drewN hW nq
              generalize W.drewN nq = W2 at e2 ⊢
              clear hW
              have B2 := bel' hbel hbel.size e2
              have own2 := Below.own hown e2
              have hB := B2.size
              skip
              have x0 : W2.cell? ⟨be, oe + k, none⟩ = some (.int .i64 x) := by rw [e2.cell (p := ⟨be, oe + k, none⟩) hbz]; exact C0.out
              have x1 : W2.cell? ⟨be, oe + (k + 1), none⟩ = some (.int .i64 y) := by rw [e2.cell (p := ⟨be, oe + (k + 1), none⟩) hbz]; exact C1.out
              have ag := own_ne own2 hbe
              clear e2 hown hbel
              have q1 : IntKind.i64.wrap ((k : Int) + 1) = (k : Int) + 1 := IntWalk.i64_in _ (by omega)
              have q2 : (0 : Int) ≤ (k : Int) + 1 := by omega
              have q3 : ((k : Int) + 1).toNat = k + 1 := by omega
              have q4 : (k : Int) + 1 < (n : Int) := by omega
              have q5 : (k : Int) < (n : Int) := by omega
              have q6 : (0 : Int) ≤ (k : Int) := by omega
              go_wp2_with fail
              go_region_held3 (fun w' => w'.cell? ⟨be, oe + k, none⟩ = some (.int .i64 x) ∧ w'.cell? ⟨be, oe + (k + 1), none⟩ = some (.int .i64 y)) (first | go_keep | (go_split_ands; refine ⟨?_, ?_⟩ <;> (rw [hgrow.cell_far _ (by simp; omega) (Ne.symm ag)]; assumption))) ((refine step_append_lies _ (by rfl) _ _ _ (by rfl) w1.heap.size 41 i0 _ 2 16 Tryz.underlying22 hi hz0 hz1 hz2 rfl (by omega) _ 0 (flat []) (by rfl) ((World.ownsRow.alloc own2 _).drew) ⟨W2.heap.size, 0, none⟩ 1 1 [.int .i64 x, .int .i64 y] (by rfl) (by rfl) (World.news_of_block (cs := #[.int .i64 x, .int .i64 y]) (t := 41) (fr := (0, 0)) (heap_alloc_new W2 _)) (by simp [Value.oneCell']) (by omega) (by unfold maxLen; omega) (by omega) (by simp; omega) (W2.heap.size + 1) (by simp) ?_; intro g1 cap1 w3 hown1 hgrow hat hltw))
              have B3 := below_app_d B2 hB own2 hgrow
              clear q1 q2 q3 q4 q5 q6 hgrow hat hltw x0 x1 ag own2 B2
              go_wp2_with fail
              go_roundw
              case rel => exact ⟨k + 1, [] ++ [(x, y)], by go_num, own_snocS rfl hown1, by simp, by omega, ⟨.inl hlt, HF.out⟩, B3⟩
              case measure => simp [intOf]; omega
            · obtain ⟨init, z, rfl⟩ := last_form ho
              clear ho
              obtain ⟨g, cv, rfl, hgb, hgl⟩ := World.ownsRow.form hown (by simp)
              have hml : (init ++ [z]).length = init.length + 1 := by simp
              rw [hml] at hol
              have hcz : wr.cell? ⟨g, init.length * 2 + 1, none⟩ = some (.int .i64 z.2) := by rw [World.ownsRow.cellAt hown _ (by simp; omega)]; simpa using flat_get1 (init ++ [z]) init.length (by simp)
              have hgz : g < wr.heap.size := hgl
              obtain ⟨z1, z2⟩ := z
              have c2' : W.cell? ⟨g, init.length * 2 + 1, none⟩ = some (.int .i64 z2) := by rw [hW.cell (p := ⟨g, init.length * 2 + 1, none⟩) hgz]; exact hcz
              have c0' : W.cell? ⟨be, oe + k, none⟩ = some (.int .i64 x) := by rw [hW.cell (p := ⟨be, oe + k, none⟩) hbz]; exact C0.out
              clear hcz
              have HO : Hid (OwnS wr w1.heap.size (.slice (some ⟨g, 0, none⟩) (init.length + 1) cv) (init ++ [(z1, z2)])) := by rw [← hml]; exact hown
              rw [hml]
              clear hml hown
              generalize hil : init.length = ml at *
              have HIL := Lib.hid hil
              clear hil
              by_cases hz : z2 = x
              · subst hz
                have HF := Lib.hid (N2.out init _ rfl hkt.out rfl)
                clear N0 N1 N2 HG hkt
                go_wp2_with fail
                go_quiet (fail)
                have e2 := below_drewN hW nq
                generalize W.drewN nq = W2 at e2 ⊢
                clear hW c2' c0'
                have own2 := Below.own HO.out e2
                have o2 := own_raw (n := ml + 1) (by simp [HIL.out]) own2
                have B2 := bel' hbel hbel.size e2
                have x1 : W2.cell? ⟨be, oe + (k + 1), none⟩ = some (.int .i64 y) := by rw [e2.cell (p := ⟨be, oe + (k + 1), none⟩) hbz]; exact C1.out
                have x2 : W2.cell? ⟨g, ml * 2 + 1, none⟩ = some (.int .i64 z2) := by rw [World.ownsRow.cellAt o2 _ (by omega), ← HIL.out]; simpa using flat_get1 (init ++ [(z1, z2)]) init.length (by simp)
                have x3 := World.ownsRow.frozenAt o2 (ml * 2 + 1)
                have HST := Lib.hid (own_set HIL.out own2 (y := y))
                have HB3 : Hid (Below w1.heap.size w1 (W2.setCell ⟨g, ml * 2 + 1, none⟩ (.int .i64 y))) := B2.setCell hgb _
                clear own2 o2 e2 B2 HO hbel
                go_wp2
                go_roundw
                case rel => exact ⟨k + 1, init ++ [(z1, y)], by go_num, HST.out, by simp; have := HIL.out; omega, by omega, ⟨.inl hlt, HF.out⟩, HB3.out⟩
                case measure => simp [intOf]; omega
              · have HF := Lib.hid (N1.out hkt.out (fun q hq => by
                  rcases List.mem_append.1 hq with hq | hq
                  · have h1 := (HG.out.2.1).le_end q hq
                    have h2 := NX.out (z1, z2) (by simp)
                    have h3 := (HG.out.2.1).1 (z1, z2) (by simp)
                    unfold Solid at h3; simp only at h1 h2 h3; omega
                  · simp at hq; subst hq; exact hz))
                clear N0 N1 N2 HG hkt
                go_wp2_with fail
                go_quiet (fail)
                have e2 := below_drewN hW nq
                generalize W.drewN nq = W2 at e2 ⊢
                clear hW c2' c0'
                have hown := HO.out
                clear HO
                have B2 := bel' hbel hbel.size e2
                have own2 := Below.own hown e2
                have hB := B2.size
                have o2 := own_raw (n := ml + 1) (by simp [HIL.out]) own2
                have x0 : W2.cell? ⟨be, oe + k, none⟩ = some (.int .i64 x) := by rw [e2.cell (p := ⟨be, oe + k, none⟩) hbz]; exact C0.out
                have x1 : W2.cell? ⟨be, oe + (k + 1), none⟩ = some (.int .i64 y) := by rw [e2.cell (p := ⟨be, oe + (k + 1), none⟩) hbz]; exact C1.out
                have ag := own_ne own2 hbe
                clear e2 hown hbel
                have q1 : IntKind.i64.wrap ((k : Int) + 1) = (k : Int) + 1 := IntWalk.i64_in _ (by omega)
                have q2 : (0 : Int) ≤ (k : Int) + 1 := by omega
                have q3 : ((k : Int) + 1).toNat = k + 1 := by omega
                have q4 : (k : Int) + 1 < (n : Int) := by omega
                have q5 : (k : Int) < (n : Int) := by omega
                have q6 : (0 : Int) ≤ (k : Int) := by omega
                go_wp2_with fail
                go_region_held3 (fun w' => w'.cell? ⟨be, oe + k, none⟩ = some (.int .i64 x) ∧ w'.cell? ⟨be, oe + (k + 1), none⟩ = some (.int .i64 y)) (first | go_keep | (go_split_ands; refine ⟨?_, ?_⟩ <;> (rw [hgrow.cell_far _ (by simp; omega) (Ne.symm ag)]; assumption))) ((refine step_append_lies _ (by rfl) _ _ _ (by rfl) w1.heap.size 41 i0 _ 2 16 Tryz.underlying22 hi hz0 hz1 hz2 rfl (by omega) _ (ml + 1) (flat (init ++ [(z1, z2)])) (by rfl) ((World.ownsRow.alloc o2 _).drew) ⟨W2.heap.size, 0, none⟩ 1 1 [.int .i64 x, .int .i64 y] (by rfl) (by rfl) (World.news_of_block (cs := #[.int .i64 x, .int .i64 y]) (t := 41) (fr := (0, 0)) (heap_alloc_new W2 _)) (by simp [Value.oneCell']) (by omega) (by unfold maxLen; omega) (by omega) (by simp; omega) (W2.heap.size + 1) (by simp) ?_; intro g1 cap1 w3 hown1 hgrow hat hltw))
                have B3 := below_app_d B2 hB own2 hgrow
                clear q1 q2 q3 q4 q5 q6 hgrow hat hltw x0 x1 ag own2 B2
                go_wp2_with fail
                go_roundw
                case rel => exact ⟨k + 1, (init ++ [(z1, z2)]) ++ [(x, y)], by go_num, own_snocS (by simp [HIL.out]) hown1, by simp; have := HIL.out; omega, by omega, ⟨.inl hlt, HF.out⟩, B3⟩
                case measure => simp [intOf]; omega
          · have HF := Lib.hid (N0.out hin.out)
            clear N0 N1 N2 HG hin
            go_wp2
            go_roundw
            case rel => exact ⟨k + 1, out, by go_num, Below.own hown hW, by omega, by omega, ⟨.inl hlt, HF.out⟩, bel' hbel hbel.size hW⟩
            case measure => simp [intOf]; omega
          · have HF := Lib.hid (N0.out hin.out)
            clear N0 N1 N2 HG hin
            go_wp2
            go_roundw
            case rel => exact ⟨k + 1, out, by go_num, Below.own hown hW, by omega, by omega, ⟨.inl hlt, HF.out⟩, bel' hbel hbel.size hW⟩
            case measure => simp [intOf]; omega
          · have hkt : Hid (keepB 3 a b x = true) := hin.out
            clear hin
            by_cases ho : out = []
            · subst ho
              have HF := Lib.hid (N1.out hkt.out (by simp))
              clear N0 N1 N2 HG hkt
              obtain ⟨Av, nv, cv, rfl, HLv, hcv, -⟩ := (IsSp.own hown).split
              obtain rfl : nv = 0 := by simpa using HLv.out.symm
              clear HLv
              go_wp2_with fail
              go_quiet (fail)
              have e2 := below_drewN hW nq
              generalize W.drewN nq = W2 at e2 ⊢
              clear hW
              have B2 := bel' hbel hbel.size e2
              have own2 := Below.own hown e2
              have hB := B2.size
              skip
              have x0 : W2.cell? ⟨be, oe + k, none⟩ = some (.int .i64 x) := by rw [e2.cell (p := ⟨be, oe + k, none⟩) hbz]; exact C0.out
              have x1 : W2.cell? ⟨be, oe + (k + 1), none⟩ = some (.int .i64 y) := by rw [e2.cell (p := ⟨be, oe + (k + 1), none⟩) hbz]; exact C1.out
              have ag := own_ne own2 hbe
              clear e2 hown hbel
              have q1 : IntKind.i64.wrap ((k : Int) + 1) = (k : Int) + 1 := IntWalk.i64_in _ (by omega)
              have q2 : (0 : Int) ≤ (k : Int) + 1 := by omega
              have q3 : ((k : Int) + 1).toNat = k + 1 := by omega
              have q4 : (k : Int) + 1 < (n : Int) := by omega
              have q5 : (k : Int) < (n : Int) := by omega
              have q6 : (0 : Int) ≤ (k : Int) := by omega
              go_wp2_with fail
              go_region_held3 (fun w' => w'.cell? ⟨be, oe + k, none⟩ = some (.int .i64 x) ∧ w'.cell? ⟨be, oe + (k + 1), none⟩ = some (.int .i64 y)) (first | go_keep | (go_split_ands; refine ⟨?_, ?_⟩ <;> (rw [hgrow.cell_far _ (by simp; omega) (Ne.symm ag)]; assumption))) ((refine step_append_lies _ (by rfl) _ _ _ (by rfl) w1.heap.size 41 i0 _ 2 16 Tryz.underlying22 hi hz0 hz1 hz2 rfl (by omega) _ 0 (flat []) (by rfl) ((World.ownsRow.alloc own2 _).drew) ⟨W2.heap.size, 0, none⟩ 1 1 [.int .i64 x, .int .i64 y] (by rfl) (by rfl) (World.news_of_block (cs := #[.int .i64 x, .int .i64 y]) (t := 41) (fr := (0, 0)) (heap_alloc_new W2 _)) (by simp [Value.oneCell']) (by omega) (by unfold maxLen; omega) (by omega) (by simp; omega) (W2.heap.size + 1) (by simp) ?_; intro g1 cap1 w3 hown1 hgrow hat hltw))
              have B3 := below_app_d B2 hB own2 hgrow
              clear q1 q2 q3 q4 q5 q6 hgrow hat hltw x0 x1 ag own2 B2
              go_wp2_with fail
              go_roundw
              case rel => exact ⟨k + 1, [] ++ [(x, y)], by go_num, own_snocS rfl hown1, by simp, by omega, ⟨.inl hlt, HF.out⟩, B3⟩
              case measure => simp [intOf]; omega
            · obtain ⟨init, z, rfl⟩ := last_form ho
              clear ho
              obtain ⟨g, cv, rfl, hgb, hgl⟩ := World.ownsRow.form hown (by simp)
              have hml : (init ++ [z]).length = init.length + 1 := by simp
              rw [hml] at hol
              have hcz : wr.cell? ⟨g, init.length * 2 + 1, none⟩ = some (.int .i64 z.2) := by rw [World.ownsRow.cellAt hown _ (by simp; omega)]; simpa using flat_get1 (init ++ [z]) init.length (by simp)
              have hgz : g < wr.heap.size := hgl
              obtain ⟨z1, z2⟩ := z
              have c2' : W.cell? ⟨g, init.length * 2 + 1, none⟩ = some (.int .i64 z2) := by rw [hW.cell (p := ⟨g, init.length * 2 + 1, none⟩) hgz]; exact hcz
              have c0' : W.cell? ⟨be, oe + k, none⟩ = some (.int .i64 x) := by rw [hW.cell (p := ⟨be, oe + k, none⟩) hbz]; exact C0.out
              clear hcz
              have HO : Hid (OwnS wr w1.heap.size (.slice (some ⟨g, 0, none⟩) (init.length + 1) cv) (init ++ [(z1, z2)])) := by rw [← hml]; exact hown
              rw [hml]
              clear hml hown
              generalize hil : init.length = ml at *
              have HIL := Lib.hid hil
              clear hil
              by_cases hz : z2 = x
              · subst hz
                have HF := Lib.hid (N2.out init _ rfl hkt.out rfl)
                clear N0 N1 N2 HG hkt
                go_wp2_with fail
                go_quiet (fail)
                have e2 := below_drewN hW nq
                generalize W.drewN nq = W2 at e2 ⊢
                clear hW c2' c0'
                have own2 := Below.own HO.out e2
                have o2 := own_raw (n := ml + 1) (by simp [HIL.out]) own2
                have B2 := bel' hbel hbel.size e2
                have x1 : W2.cell? ⟨be, oe + (k + 1), none⟩ = some (.int .i64 y) := by rw [e2.cell (p := ⟨be, oe + (k + 1), none⟩) hbz]; exact C1.out
                have x2 : W2.cell? ⟨g, ml * 2 + 1, none⟩ = some (.int .i64 z2) := by rw [World.ownsRow.cellAt o2 _ (by omega), ← HIL.out]; simpa using flat_get1 (init ++ [(z1, z2)]) init.length (by simp)
                have x3 := World.ownsRow.frozenAt o2 (ml * 2 + 1)
                have HST := Lib.hid (own_set HIL.out own2 (y := y))
                have HB3 : Hid (Below w1.heap.size w1 (W2.setCell ⟨g, ml * 2 + 1, none⟩ (.int .i64 y))) := B2.setCell hgb _
                clear own2 o2 e2 B2 HO hbel
                go_wp2
                go_roundw
                case rel => exact ⟨k + 1, init ++ [(z1, y)], by go_num, HST.out, by simp; have := HIL.out; omega, by omega, ⟨.inl hlt, HF.out⟩, HB3.out⟩
                case measure => simp [intOf]; omega
              · have HF := Lib.hid (N1.out hkt.out (fun q hq => by
                  rcases List.mem_append.1 hq with hq | hq
                  · have h1 := (HG.out.2.1).le_end q hq
                    have h2 := NX.out (z1, z2) (by simp)
                    have h3 := (HG.out.2.1).1 (z1, z2) (by simp)
                    unfold Solid at h3; simp only at h1 h2 h3; omega
                  · simp at hq; subst hq; exact hz))
                clear N0 N1 N2 HG hkt
                go_wp2_with fail
                go_quiet (fail)
                have e2 := below_drewN hW nq
                generalize W.drewN nq = W2 at e2 ⊢
                clear hW c2' c0'
                have hown := HO.out
                clear HO
                have B2 := bel' hbel hbel.size e2
                have own2 := Below.own hown e2
                have hB := B2.size
                have o2 := own_raw (n := ml + 1) (by simp [HIL.out]) own2
                have x0 : W2.cell? ⟨be, oe + k, none⟩ = some (.int .i64 x) := by rw [e2.cell (p := ⟨be, oe + k, none⟩) hbz]; exact C0.out
                have x1 : W2.cell? ⟨be, oe + (k + 1), none⟩ = some (.int .i64 y) := by rw [e2.cell (p := ⟨be, oe + (k + 1), none⟩) hbz]; exact C1.out
                have ag := own_ne own2 hbe
                clear e2 hown hbel
                have q1 : IntKind.i64.wrap ((k : Int) + 1) = (k : Int) + 1 := IntWalk.i64_in _ (by omega)
                have q2 : (0 : Int) ≤ (k : Int) + 1 := by omega
                have q3 : ((k : Int) + 1).toNat = k + 1 := by omega
                have q4 : (k : Int) + 1 < (n : Int) := by omega
                have q5 : (k : Int) < (n : Int) := by omega
                have q6 : (0 : Int) ≤ (k : Int) := by omega
                go_wp2_with fail
                go_region_held3 (fun w' => w'.cell? ⟨be, oe + k, none⟩ = some (.int .i64 x) ∧ w'.cell? ⟨be, oe + (k + 1), none⟩ = some (.int .i64 y)) (first | go_keep | (go_split_ands; refine ⟨?_, ?_⟩ <;> (rw [hgrow.cell_far _ (by simp; omega) (Ne.symm ag)]; assumption))) ((refine step_append_lies _ (by rfl) _ _ _ (by rfl) w1.heap.size 41 i0 _ 2 16 Tryz.underlying22 hi hz0 hz1 hz2 rfl (by omega) _ (ml + 1) (flat (init ++ [(z1, z2)])) (by rfl) ((World.ownsRow.alloc o2 _).drew) ⟨W2.heap.size, 0, none⟩ 1 1 [.int .i64 x, .int .i64 y] (by rfl) (by rfl) (World.news_of_block (cs := #[.int .i64 x, .int .i64 y]) (t := 41) (fr := (0, 0)) (heap_alloc_new W2 _)) (by simp [Value.oneCell']) (by omega) (by unfold maxLen; omega) (by omega) (by simp; omega) (W2.heap.size + 1) (by simp) ?_; intro g1 cap1 w3 hown1 hgrow hat hltw))
                have B3 := below_app_d B2 hB own2 hgrow
                clear q1 q2 q3 q4 q5 q6 hgrow hat hltw x0 x1 ag own2 B2
                go_wp2_with fail
                go_roundw
                case rel => exact ⟨k + 1, (init ++ [(z1, z2)]) ++ [(x, y)], by go_num, own_snocS (by simp [HIL.out]) hown1, by simp; have := HIL.out; omega, by omega, ⟨.inl hlt, HF.out⟩, B3⟩
                case measure => simp [intOf]; omega
          · have HF := Lib.hid (N0.out hin.out)
            clear N0 N1 N2 HG hin
            go_wp2
            go_roundw
            case rel => exact ⟨k + 1, out, by go_num, Below.own hown hW, by omega, by omega, ⟨.inl hlt, HF.out⟩, bel' hbel hbel.size hW⟩
            case measure => simp [intOf]; omega
    · have HF := Lib.hid (OfR.fin EK.out HG.out.2 (by have := HL.out; omega) (by have := HL.out; rw [this]; exact HG.out.1))
      have hln : out.length ≤ 2 * (a.length + b.length) := by omega
      clear HG
      have HO := Lib.hid (IsSp.own hown)
      clear hown
      go_wp2
      go_ret
      exact ⟨_, out, rfl, HO.out, HF.out.1, HF.out.2, hln, bel B1 hbel⟩
end Go.Proofs.YthbjhpfgfpkppaaGreatDoor
