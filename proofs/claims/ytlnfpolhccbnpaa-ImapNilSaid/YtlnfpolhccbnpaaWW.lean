/-
  ImapApart: the walk.
-/
import Derived.Test.YtlnfpolhccbnpaaIL
import Derived.Test.YtlnfpolhccbnpaaK4
import Derived.Test.YtlnfpolhccbnpaaW1
namespace Go.Proofs.Ytlnfpolhccbnpaa
open Go Go.RowKit

/-- what a loop of acts leaves of a map -/
def MapIn (base mb : Nat) (r0 : Option Nat) (w4 wr : World) (D : List Rn) : Prop := ∃ A n c, MapAt wr base mb A n c D ∧ Two w4 wr mb r0 ∧ Kin w4 r0 (.slice A n c)
theorem MapIn.start {base mb : Nat} {w : World} {A : Option Addr} {n c : Nat} {D : List Rn} (h : MapAt w base mb A n c D) : MapIn base mb (Value.slice A n c).ownBlock w w D := ⟨A, n, c, h, Two.ext (Ext.rf w), .inl rfl⟩
theorem MapIn.post {base mb : Nat} {r0 : Option Nat} {w4 wr W1 W2 : World} {A : Option Addr} {n c : Nat} {D' : List Rn} (h2 : Two w4 wr mb r0) (h3 : Kin w4 r0 (.slice A n c)) (e : Ext wr W1) (hp : MapPost base mb A n c D' W1 W2) : MapIn base mb r0 w4 W2 D' := by
  obtain ⟨A', n', c', g1, g2, g3⟩ := hp
  have t1 : Two w4 W1 mb r0 := h2.tr (Two.ext e) (.inl rfl)
  have hz : w4.heap.size ≤ W1.heap.size := t1.size
  refine ⟨A', n', c', g1, t1.tr g2 ?_, ?_⟩
  · rcases h3 with h | ⟨k, hk, hkz⟩
    · exact .inl h
    · exact .inr fun g hg => by rw [hk] at hg; injection hg with hg; omega
  · rcases g3 with h | ⟨k, hk, hkz⟩
    · rcases h3 with h4 | ⟨k', hk', hkz'⟩
      · exact .inl (h.trans h4)
      · exact .inr ⟨k', h.trans hk', hkz'⟩
    · exact .inr ⟨k, hk, by omega⟩
theorem own_at {w W : World} {base e size n : Nat} {v : Value} {xs : List Value} (h : w.ownsRow base e size v n xs) (hb : ∀ g, v.ownBlock = some g → W.heap[g]? = w.heap[g]?) : W.ownsRow base e size v n xs := by
  refine ⟨h.1, ?_⟩
  rcases h.2 with h2 | ⟨g, cap, cur, h1, h2, h3, h4⟩
  · exact .inl h2
  · exact .inr ⟨g, cap, cur, h1, h2, by rw [hb g (by rw [h1]; rfl)]; exact h3, h4⟩
theorem MapAt.at' {w W : World} {base mb : Nat} {A : Option Addr} {n c : Nat} {l : List Rn} (h : MapAt w base mb A n c l) (h1 : W.heap[mb]? = w.heap[mb]?) (h2 : ∀ g, (Value.slice A n c).ownBlock = some g → W.heap[g]? = w.heap[g]?) : MapAt W base mb A n c l :=
  ⟨h1.trans h.box, own_at h.own h2, h.ne⟩
/-- slices of runs, of acts, as values -/
def IsRn (D : List Rn) (v : Value) (W : World) : Prop := ∃ A n c, v = .slice A n c ∧ D.length = n ∧ RnAt W W.heap.size A D
theorem IsRn.st {D : List Rn} : ∀ v W W', IsRn D v W → Ext W W' → IsRn D v W' := fun _ _ _ ⟨A, n, c, e, h, k⟩ x => ⟨A, n, c, e, h, k.ext x⟩
def IsAcs (l : List Ac) (v : Value) (W : World) : Prop := ∃ A n c, v = .slice A n c ∧ l.length = n ∧ AcAt W W.heap.size A l
theorem IsAcs.st {l : List Ac} : ∀ v W W', IsAcs l v W → Ext W W' → IsAcs l v W' := fun _ _ _ ⟨A, n, c, e, h, k⟩ x => ⟨A, n, c, e, h, k.ext x⟩
theorem all_is {base mb : Nat} {A : Option Addr} {n c : Nat} {D : List Rn} {W : World} (h : MapAt W base mb A n c D) (hb : D.length ≤ 9000) :
    Calls Try.prog 16 #[.pointer (some ⟨mb, 0, none⟩)] W fun e w' => ∃ v, e = .returned v ∧ IsRn D v w' ∧ Below W.heap.size W w' :=
  (all_any _ A n c D W (Lists.map h.box.cell h.box.lt) h.len (by have := h.len; omega) h.at_).mono fun _ _ ⟨A', n', c', he, hl, hr, hE⟩ => ⟨_, he, ⟨A', n', c', rfl, hl, hr⟩, hE⟩
theorem both_is {lb : Nat} {A B : Option Addr} {n c m d : Nat} {l x : List Ac} {W : World} (hk : W.cell? ⟨lb, 0, none⟩ = some (.slice A n c)) (hkz : lb < W.heap.size) (hn : l.length = n) (hm : x.length = m) (hnb : n ≤ 1000) (hmb : m ≤ 1000) (hl : AcAt W W.heap.size A l) (hx : AcAt W W.heap.size B x) :
    Calls Try.prog 32 #[.slice B m d, .pointer (some ⟨lb, 0, none⟩)] W fun e w' => ∃ v, e = .returned v ∧ IsAcs (l ++ x) v w' ∧ Below W.heap.size W w' :=
  (both_any lb A B n c m d l x W hk hkz hn hm hnb hmb hl hx).mono fun _ _ ⟨A', n', c', he, hl, hr, hE⟩ => ⟨_, he, ⟨A', n', c', rfl, hl, hr⟩, hE⟩
theorem runs_is {L : List Ac} {D : List Rn} {v : Value} {W : World} (h : IsAcs L v W) (hL : L.length ≤ 1000) (hD : actsI [] L = D) :
    Calls Try.prog 13 #[v] W fun e w' => ∃ v, e = .returned v ∧ IsRn D v w' ∧ Below W.heap.size W w' := by
  obtain ⟨A, n, c, rfl, hl, hat⟩ := h
  subst hD
  refine (runs_any A n c L W hl (by omega) hat).mono ?_
  rintro e w' ⟨v, rfl, ho, hE⟩
  obtain ⟨A', n', c', rfl⟩ := own_slice ho
  obtain ⟨h1, h2⟩ := RnAt.ownQ ho
  exact ⟨_, rfl, ⟨A', n', c', rfl, h1, h2⟩, hE⟩
theorem same_is {D : List Rn} {v u : Value} {W : World} (h : IsRn D v W) (k : IsRn D u W) (hb : D.length ≤ 9000) :
    Calls Try.prog 15 #[v, u] W fun e w' => e = .returned (.bool true) ∧ Below W.heap.size W w' := by
  obtain ⟨A, n, c, rfl, hl, hat⟩ := h
  obtain ⟨A', n', c', rfl, hl', hat'⟩ := k
  exact (same_q A A' n c n' c' D D W hl hl' (by omega) hat hat').mono fun _ _ ⟨he, hE⟩ => ⟨by rw [he]; simp, hE⟩

set_option maxHeartbeats 32000000 in
set_option maxRecDepth 100000 in
theorem walk_ImapApart (A : Option Addr) (n c : Nat) (l : List Ac) (B : Option Addr) (m d : Nat) (x : List Ac) (C : Option Addr) (p f : Nat) (y : List Ac) (w : World)
    (hn : l.length = n) (hmx : n ≤ maxLen) (hs : AcAt w w.heap.size A l) (hm : x.length = m) (hmx1 : m ≤ maxLen) (hx : AcAt w w.heap.size B x) (hp : y.length = p) (hmx2 : p ≤ maxLen) (hy : AcAt w w.heap.size C y) :
    Calls Try.prog 8 #[.slice A n c, .slice B m d, .slice C p f] w fun e w' => e = .returned (.bool true) ∧ Below w.heap.size w w' := by
  have HS := Lib.hid hs
  have HX := Lib.hid hx
  have HY := Lib.hid hy
  have HN := Lib.hid hn
  have HXN := Lib.hid hm
  have HYN := Lib.hid hp
  clear hs hx hy hn hm hp
  unfold maxLen at hmx hmx1 hmx2
  by_cases h1 : (30 : Int) < (n : Int)
  · go_enter Try.func8, Try.ntmps8
    go_wp2_with fail
    with_reducible refine (alive_any _).mono ?_
    rintro e w1 ⟨rfl, E1⟩
    have HB1 := (Box.new w 22 (.slice A n c)).ext E1
    have k0 := HB1.cell
    have kz := HB1.lt
    have E2 := Ext.tr ((Below.refl _ _).alloc (Nat.le_refl _) _ : Ext w (w.alloc (.cells #[.slice A n c] 22))) E1
    go_wp2
    go_ret
    exact ⟨rfl, E2⟩
  by_cases h2 : (10 : Int) < (m : Int)
  · go_enter Try.func8, Try.ntmps8
    go_wp2_with fail
    with_reducible refine (alive_any _).mono ?_
    rintro e w1 ⟨rfl, E1⟩
    have HB1 := (Box.new w 22 (.slice A n c)).ext E1
    have k0 := HB1.cell
    have kz := HB1.lt
    have E2 := Ext.tr ((Below.refl _ _).alloc (Nat.le_refl _) _ : Ext w (w.alloc (.cells #[.slice A n c] 22))) E1
    go_wp2
    go_ret
    exact ⟨rfl, E2⟩
  by_cases h3 : (10 : Int) < (p : Int)
  · go_enter Try.func8, Try.ntmps8
    go_wp2_with fail
    with_reducible refine (alive_any _).mono ?_
    rintro e w1 ⟨rfl, E1⟩
    have HB1 := (Box.new w 22 (.slice A n c)).ext E1
    have k0 := HB1.cell
    have kz := HB1.lt
    have E2 := Ext.tr ((Below.refl _ _).alloc (Nat.le_refl _) _ : Ext w (w.alloc (.cells #[.slice A n c] 22))) E1
    go_wp2
    go_ret
    exact ⟨rfl, E2⟩
  · have e0 : Ext w (w.alloc (.cells #[.slice A n c] 22)) := (Below.refl _ _).alloc (Nat.le_refl _) _
    go_enter Try.func8, Try.ntmps8
    go_wp2_with fail
    with_reducible refine (alive_any _).mono ?_
    rintro e w1 ⟨rfl, E1⟩
    have HB1 := (Box.new w 22 (.slice A n c)).ext E1
    have k0 := HB1.cell
    have kz := HB1.lt
    have E1 := Ext.tr e0 E1
    go_wp2_with fail
    have hmd := made_any A n c l w1 HN.out (by omega) (HS.out.ext E1)
    with_reducible refine hmd.mono ?_
    rintro e w2 ⟨rfl, ⟨A2, n2, c2, hm2⟩, F2⟩
    clear hmd k0
    have hmz := hm2.box.lt
    have hg0 := actsI_good l (D := []) trivial
    have hle := actsI_len l (D := []) trivial
    obtain ⟨D0, hD0⟩ : ∃ D, actsI [] l = D := ⟨_, rfl⟩
    rw [hD0] at hm2 hg0 hle
    have E_D0 := Lib.hid hD0
    have GD := Lib.hid hg0
    have LD : Hid (D0.length ≤ 60) := by have := HN.out; simp at hle; unfold Hid; omega
    have HB2 := Lib.hid (HB1.ext F2)
    have hwlt : w.heap.size < w1.heap.size := kz
    have E2 := Ext.tr E1 F2
    have HM2 := Lib.hid hm2
    have hl2 := hm2.len
    have hn2 : n2 ≤ 60 := by have := LD.out; omega
    have HR0 : Hid (∀ k, (Value.slice A2 n2 c2).ownBlock = some k → w1.heap.size ≤ k ∧ k < w2.heap.size) := fun k hk => World.ownsRow.lt HM2.out.own k hk
    have hAl := All_map _ A2 n2 c2 D0 w2 (Lists.map hm2.box.cell hm2.box.lt) hl2 (by omega) hm2.at_
    clear hm2 hg0 hle hD0 E1 F2 HB1 kz
    go_wp2_with fail
    with_reducible refine hAl.mono ?_
    rintro e w3 ⟨A3, c3, p3, rfl, hbox3, hown3, hp3, F3⟩
    clear hAl
    have HBx3 := Lib.hid hbox3
    have HO3 := Lib.hid hown3
    have hp3z := hbox3.lt
    have hm3 := HM2.out.ext F3
    have hCl := clone_map _ _ A2 n2 c2 D0 w3 hm3 (by omega)
    have E3 := Ext.tr E2 F3
    have z23 := F3.size
    clear hbox3 hown3 hm3
    go_wp2_with fail
    with_reducible refine hCl.mono ?_
    rintro e w4 ⟨cb, A4, c4, rfl, hm4, F4, hcb⟩
    clear hCl
    have z34 := F4.size
    have HM4 := Lib.hid hm4
    have hcz := hm4.box.lt
    have HRC : Hid (∀ k, (Value.slice A4 n2 c4).ownBlock = some k → w3.heap.size ≤ k ∧ k < w4.heap.size) := fun k hk => World.ownsRow.lt HM4.out.own k hk
    have Bw_w4 : Below w.heap.size w w4 := Ext.tr E3 F4
    have HM0 : Hid (MapIn w1.heap.size w1.heap.size (Value.slice A2 n2 c2).ownBlock w4 w4 D0) := MapIn.start ((HM2.out.ext F3).ext F4)
    have HBx4 : Hid (Box w4 p3 71 (.slice A3 n2 c3)) := HBx3.out.ext F4
    have HO4 : Hid (OwnR w4 w2.heap.size (.slice A3 n2 c3) D0) := HO3.out.ext F4
    have HO3z : Hid (∀ k, (Value.slice A3 n2 c3).ownBlock = some k → w2.heap.size ≤ k ∧ k < w3.heap.size) := fun k hk => World.ownsRow.lt HO3.out k hk
    have HB4 : Hid (Box w4 w.heap.size 22 (.slice A n c)) := (HB2.out.ext F3).ext F4
    clear hm4 E2 E3 F3 F4 HB2 HM2 HBx3 HO3
    generalize w1.heap.size = mb at *
    obtain ⟨r0, hr0⟩ : ∃ r, (Value.slice A2 n2 c2).ownBlock = r := ⟨_, rfl⟩
    rw [hr0] at HM0 HR0
    clear hr0
    have le_mb : w.heap.size ≤ mb := by omega
    have lr_mb : ∀ k, r0 = some k → w.heap.size ≤ k := fun k hk => by have := HR0.out k hk; omega
    have HLR := Lib.hid lr_mb
    go_wp2_with fail
    go_loopw [43] (fun i wr => ∃ k : Nat, k ≤ m ∧ i = .int .i64 k ∧ MapIn mb mb r0 w4 wr (actsI D0 (x.take k))) (fun i _ => m - (intOf i).toNat)
    case atStart => exact ⟨0, Nat.zero_le _, rfl, HM0.out⟩
    case round =>
      obtain ⟨k, hk, rfl, A5, n5, c5, hmap, hTw, hKi⟩ := hrel
      have Bwr : Below w.heap.size w wr := Bw_w4.trans (hTw.below Bw_w4.size le_mb lr_mb)
      have hwz := Bwr.size
      have hwz0 := hTw.size
      by_cases hlt : k < m
      · have hkl : k < x.length := by have := HXN.out; omega
        obtain ⟨b, o, rfl, hbb, hc⟩ := (HX.out.below Bwr (Nat.le_refl _)) (by omega)
        obtain ⟨c0, c1, c2', c3⟩ := hc k hkl
        clear hc
        have hbz : b < wr.heap.size := by omega
        have HT := Lib.hid (actsI_take (D := D0) hkl)
        have hg := actsI_good (x.take k) (D := D0) GD.out
        have hl := actsI_len (x.take k) (D := D0) GD.out
        rw [List.length_take] at hl
        have hln := hmap.len
        generalize actsI D0 (x.take k) = D at *
        generalize x[k] = XX at *
        obtain ⟨dd, u, v, z⟩ := XX
        simp only at c0 c1 c2' c3
        have hn5 : n5 ≤ 1000 := by have := HXN.out; have := LD.out; omega
        have e1 : Ext wr (wr.alloc (.cells #[.bool dd, .int .i64 u, .int .i64 v, .int .i64 z] 63)) := (Below.refl _ _).alloc (Nat.le_refl _) _
        have hmap1 := hmap.ext e1
        have HD := Lib.hid (drop_any mb mb A5 n5 c5 D u v _ hmap1 hg (by omega) (by simp; omega))
        have HP := Lib.hid (put_any mb mb A5 n5 c5 D u v z _ hmap1 hg (by omega) (by simp; omega))
        have HXX : Hid (∀ D' W', MapPost mb mb A5 n5 c5 D' (wr.alloc (.cells #[.bool dd, .int .i64 u, .int .i64 v, .int .i64 z] 63)) W' → MapIn mb mb r0 w4 W' D') := fun D' W' h => MapIn.post hTw hKi e1 h
        clear hmap hmap1 e1 hg hl hln hTw hKi Bwr
        cases dd with
        | true =>
          have HF : Hid (dropI D u v = actsI D0 (x.take (k + 1))) := by unfold Hid; rw [HT.out]; rfl
          clear HT HP
          go_wp2_with (go_at_call 29; refine (Hid.out HD).mono ?_; rintro e wd ⟨rfl, hp⟩; have HR := Lib.hid (HXX.out _ _ hp); clear hp)
          go_roundw
          case rel => exact ⟨k + 1, by omega, by go_num, by rw [← HF.out]; exact HR.out⟩
          case measure => simp [intOf]; omega
        | false =>
          have HF : Hid (putI D u v z = actsI D0 (x.take (k + 1))) := by unfold Hid; rw [HT.out]; rfl
          clear HT HD
          go_wp2_with (go_at_call 30; refine (Hid.out HP).mono ?_; rintro e wd ⟨rfl, hp⟩; have HR := Lib.hid (HXX.out _ _ hp); clear hp)
          go_roundw
          case rel => exact ⟨k + 1, by omega, by go_num, by rw [← HF.out]; exact HR.out⟩
          case measure => simp [intOf]; omega
      · obtain rfl : m = k := by omega
        have hlk : x.take m = x := List.take_of_length_le (by have := HXN.out; omega)
        rw [hlk] at hmap
        clear hlk
        have HMm := Lib.hid hmap
        have HTw := Lib.hid hTw
        have HKi := Lib.hid hKi
        have Bw_w5 := Bwr
        have hml := hmap.len
        have hgD1 := actsI_good x (D := D0) GD.out
        have hlD1 := actsI_len x (D := D0) GD.out
        have E_D1 : Hid (actsI [] (l ++ x) = actsI D0 x) := by unfold Hid; rw [← E_D0.out]; unfold actsI; rw [List.foldl_append]
        obtain ⟨D1, hD1⟩ : ∃ D, actsI D0 x = D := ⟨_, rfl⟩
        rw [hD1] at E_D1 hlD1
        have HMm : Hid (MapAt wr mb mb A5 n5 c5 D1) := by rw [← hD1]; exact HMm.out
        have LB_D1 : Hid (D1.length ≤ 9000) := by have := LD.out; have := HXN.out; unfold Hid; omega
        have HMc : Hid (MapAt wr w3.heap.size cb A4 n2 c4 D0) := HM4.out.at' (HTw.out.block cb hcz (by omega) (fun e => by have := HR0.out cb e.symm; omega)) (fun g hg => by
          have h1 := HRC.out g hg
          exact HTw.out.block g h1.2 (by omega) (fun e => by have := HR0.out g e.symm; omega))
        have HBx5 : Hid (Box wr p3 71 (.slice A3 n2 c3)) := (HTw.out.block p3 (by omega) (by omega) (fun e => by have := HR0.out p3 e.symm; omega)).trans HBx4.out
        have HO5 : Hid (OwnR wr w2.heap.size (.slice A3 n2 c3) D0) := own_at HO4.out fun g hg => by
          have h1 := HO3z.out g hg
          exact HTw.out.block g (by omega) (by omega) (fun e => by have := HR0.out g e.symm; omega)
        have HB5 : Hid (Box wr w.heap.size 22 (.slice A n c)) := (HTw.out.block w.heap.size (by omega) (by omega) (fun e => by have := HR0.out w.heap.size e.symm; omega)).trans HB4.out
        have HK5 : Hid (∀ g, (Value.slice A5 n5 c5).ownBlock = some g → g < w2.heap.size ∨ w4.heap.size ≤ g) := fun g hg => by
          rcases HKi.out with h | ⟨k', hk', hz'⟩
          · have := HR0.out g (h.symm.trans hg); omega
          · rw [hk'] at hg; injection hg with hg; omega
        have HMO := Lib.hid (fun g (hg : (Value.slice A5 n5 c5).ownBlock = some g) => (World.ownsRow.lt HMm.out.own g hg).2)
        have hmz5 := HMm.out.box.lt
        have hcz5 := HMc.out.box.lt
        have w45 := HTw.out.size
        clear hmap hTw hKi Bwr hml HM4 HBx4 HO4 HB4 HTw HKi hgD1 hlD1 hD1
        have HM0c : Hid (MapIn w3.heap.size cb (Value.slice A4 n2 c4).ownBlock wr wr D0) := MapIn.start HMc.out
        obtain ⟨rc, hrc⟩ : ∃ r, (Value.slice A4 n2 c4).ownBlock = r := ⟨_, rfl⟩
        rw [hrc] at HM0c HRC
        clear hrc HMc lr_mb
        have le_cb : w.heap.size ≤ cb := by omega
        have lr_cb : ∀ k, rc = some k → w.heap.size ≤ k := fun k hk => by have := HRC.out k hk; omega
        have hwz0' := hwz
        clear hwz hwz0
        obtain ⟨w5, hw5⟩ : ∃ w5, w5 = wr := ⟨wr, rfl⟩
        subst hw5
        go_wp2_with fail
        go_loopw [62] (fun i wr => ∃ k : Nat, k ≤ p ∧ i = .int .i64 k ∧ MapIn w3.heap.size cb rc w5 wr (actsI D0 (y.take k))) (fun i _ => p - (intOf i).toNat)
        case atStart => exact ⟨0, Nat.zero_le _, rfl, HM0c.out⟩
        case round =>
          obtain ⟨k, hk, rfl, A6, n6, c6, hmap, hTw, hKi⟩ := hrel
          have Bwr : Below w.heap.size w wr := Bw_w5.trans (hTw.below Bw_w5.size le_cb lr_cb)
          have hwz := Bwr.size
          have hwz0 := hTw.size
          by_cases hlt : k < p
          · have hkl : k < y.length := by have := HYN.out; omega
            obtain ⟨b, o, rfl, hbb, hc⟩ := (HY.out.below Bwr (Nat.le_refl _)) (by omega)
            obtain ⟨c0, c1, c2', c3⟩ := hc k hkl
            clear hc
            have hbz : b < wr.heap.size := by omega
            have HT := Lib.hid (actsI_take (D := D0) hkl)
            have hg := actsI_good (y.take k) (D := D0) GD.out
            have hl := actsI_len (y.take k) (D := D0) GD.out
            rw [List.length_take] at hl
            have hln := hmap.len
            generalize actsI D0 (y.take k) = D at *
            generalize y[k] = XX at *
            obtain ⟨dd, u, v, z⟩ := XX
            simp only at c0 c1 c2' c3
            have hn6 : n6 ≤ 1000 := by have := HYN.out; have := LD.out; omega
            have e1 : Ext wr (wr.alloc (.cells #[.bool dd, .int .i64 u, .int .i64 v, .int .i64 z] 63)) := (Below.refl _ _).alloc (Nat.le_refl _) _
            have hmap1 := hmap.ext e1
            have HD := Lib.hid (drop_any w3.heap.size cb A6 n6 c6 D u v _ hmap1 hg (by omega) (by simp; omega))
            have HP := Lib.hid (put_any w3.heap.size cb A6 n6 c6 D u v z _ hmap1 hg (by omega) (by simp; omega))
            have HXX : Hid (∀ D' W', MapPost w3.heap.size cb A6 n6 c6 D' (wr.alloc (.cells #[.bool dd, .int .i64 u, .int .i64 v, .int .i64 z] 63)) W' → MapIn w3.heap.size cb rc w5 W' D') := fun D' W' h => MapIn.post hTw hKi e1 h
            clear hmap hmap1 e1 hg hl hln hTw hKi Bwr
            cases dd with
            | true =>
              have HF : Hid (dropI D u v = actsI D0 (y.take (k + 1))) := by unfold Hid; rw [HT.out]; rfl
              clear HT HP
              go_wp2_with (go_at_call 29; refine (Hid.out HD).mono ?_; rintro e wd ⟨rfl, hp⟩; have HR := Lib.hid (HXX.out _ _ hp); clear hp)
              go_roundw
              case rel => exact ⟨k + 1, by omega, by go_num, by rw [← HF.out]; exact HR.out⟩
              case measure => simp [intOf]; omega
            | false =>
              have HF : Hid (putI D u v z = actsI D0 (y.take (k + 1))) := by unfold Hid; rw [HT.out]; rfl
              clear HT HD
              go_wp2_with (go_at_call 30; refine (Hid.out HP).mono ?_; rintro e wd ⟨rfl, hp⟩; have HR := Lib.hid (HXX.out _ _ hp); clear hp)
              go_roundw
              case rel => exact ⟨k + 1, by omega, by go_num, by rw [← HF.out]; exact HR.out⟩
              case measure => simp [intOf]; omega
          · obtain rfl : p = k := by omega
            have hlk : y.take p = y := List.take_of_length_le (by have := HYN.out; omega)
            rw [hlk] at hmap
            clear hlk
            have HMc := Lib.hid hmap
            have hgD2 := actsI_len y (D := D0) GD.out
            have E_D2 : Hid (actsI [] (l ++ y) = actsI D0 y) := by unfold Hid; rw [← E_D0.out]; unfold actsI; rw [List.foldl_append]
            obtain ⟨D2, hD2⟩ : ∃ D, actsI D0 y = D := ⟨_, rfl⟩
            rw [hD2] at E_D2 hgD2
            have HM2 : Hid (MapAt wr w3.heap.size cb A6 n6 c6 D2) := by rw [← hD2]; exact HMc.out
            have LB_D2 : Hid (D2.length ≤ 9000) := by have := LD.out; have := HYN.out; unfold Hid; omega
            have LB_D0 : Hid (D0.length ≤ 9000) := by have := LD.out; unfold Hid; omega
            have LN_D0 : Hid (l.length ≤ 1000) := by have := HN.out; unfold Hid; omega
            have LN_D1 : Hid ((l ++ x).length ≤ 1000) := by have := HN.out; have := HXN.out; unfold Hid; simp; omega
            have LN_D2 : Hid ((l ++ y).length ≤ 1000) := by have := HN.out; have := HYN.out; unfold Hid; simp; omega
            have HM1 : Hid (MapAt wr mb mb A5 n5 c5 D1) := HMm.out.at' (hTw.block mb hmz5 (by omega) (fun e => by have := HRC.out mb e.symm; omega)) (fun g hg => by
              have h1 := HK5.out g hg
              have h2 := HMO.out g hg
              exact hTw.block g h2 (by omega) (fun e => by have := HRC.out g e.symm; omega))
            have HBx6 : Hid (Box wr p3 71 (.slice A3 n2 c3)) := (hTw.block p3 (by omega) (by omega) (fun e => by have := HRC.out p3 e.symm; omega)).trans HBx5.out
            have HO6 : Hid (OwnR wr w2.heap.size (.slice A3 n2 c3) D0) := own_at HO5.out fun g hg => by
              have h1 := HO3z.out g hg
              exact hTw.block g (by omega) (by omega) (fun e => by have := HRC.out g e.symm; omega)
            have HB6 : Hid (Box wr w.heap.size 22 (.slice A n c)) := (hTw.block w.heap.size (by omega) (by omega) (fun e => by have := HRC.out w.heap.size e.symm; omega)).trans HB5.out
            have HBw := Lib.hid Bwr
            clear hmap hTw hKi HMc hD2 hgD2
            have eo : Ext wr (wr.alloc (.cells #[.slice none 0 0] 27)) := (Below.refl _ _).alloc (Nat.le_refl _) _
            have hSe := seen_any wr.heap.size p3 A3 n2 c3 D0 (wr.alloc (.cells #[.slice none 0 0] 27)) (Box.new wr _ _) (HBx6.out.ext eo) ((RnAt.own HO6.out).2.2.ext eo) (fun b o e hb => by
              subst e
              have := (World.ownsRow.lt HO6.out b rfl).2
              omega) (fun e => by have := HBx6.out.lt; omega) (RnAt.own HO6.out).1 (by omega)
            go_wp2_with fail
            with_reducible refine hSe.mono ?_
            rintro e w8 ⟨rfl, A9, n9, c9, hb9, ho9, hK9⟩
            have e8 : Ext wr w8 := ⟨hK9.os.trans eo.os, hK9.tape.trans eo.tape, hK9.output.trans eo.output, Nat.le_trans eo.size hK9.size, fun k hk => (hK9.block k (by have := eo.size; omega) (by omega)).trans (eo.block k hk)⟩
            have oc := hb9.cell
            have oz := hb9.lt
            have OUT : Hid (IsRn D0 (.slice A9 n9 c9) w8) := ⟨A9, n9, c9, rfl, (RnAt.ownQ ho9).1, (RnAt.ownQ ho9).2⟩
            have HM1 := Lib.hid (HM1.out.ext e8)
            have HM2 := Lib.hid (HM2.out.ext e8)
            have HB8 := HB6.out.ext e8
            have kl := HB8.cell
            have klz := HB8.lt
            have B8 : Below w.heap.size w w8 := HBw.out.trans (e8.mono HBw.out.size)
            have AL := Lib.hid (HS.out.below B8 B8.size)
            have AX := Lib.hid (HX.out.below B8 B8.size)
            have AY := Lib.hid (HY.out.below B8 B8.size)
            clear hb9 ho9 hK9 e8 HB8 HB6 HBx6 HO6 HBx5 HO5 HB5 eo hSe HBw
            have kL : ∀ W, Ext w8 W → W.cell? ⟨w.heap.size, 0, none⟩ = some (.slice A n c) := fun W h => by rw [h.cell (p := ⟨w.heap.size, 0, none⟩) klz]; exact kl
            have kO : ∀ W, Ext w8 W → W.cell? ⟨wr.heap.size, 0, none⟩ = some (.slice A9 n9 c9) := fun W h => by rw [h.cell (p := ⟨wr.heap.size, 0, none⟩) oz]; exact oc
            clear kl oc
            go_wp2_with fail
            refine' wp_region_made (rels := relsOf ((.val _) :: (.val _) :: (.val _) :: (.rel (IsRn D1)) :: (.val _) :: (.val _) :: (.rel (IsAcs (l ++ x))) :: (.rel (IsRn D1)) :: (.val _) :: (.val _) :: (.val _) :: (.val _) :: (.rel (IsRn D2)) :: (.val _) :: (.val _) :: (.rel (IsAcs (l ++ y))) :: (.rel (IsRn D2)) :: (.val _) :: (.val _) :: (.val _) :: (.val _) :: (.val _) :: (.rel (IsRn D0)) :: (.val _) :: (.val _) :: (.val _) :: [])) (w := w8) 108 (by kernel_rfl) (by kernel_rfl) (by rfl) (relsOf_stable ?stt) ?wkt
            case stt => exact stable_val (stable_val (stable_val (stable_rel IsRn.st (stable_val (stable_val (stable_rel IsAcs.st (stable_rel IsRn.st (stable_val (stable_val (stable_val (stable_val (stable_rel IsRn.st (stable_val (stable_val (stable_rel IsAcs.st (stable_rel IsRn.st (stable_val (stable_val (stable_val (stable_val (stable_val (stable_rel IsRn.st (stable_val (stable_val (stable_val (stable_nil))))))))))))))))))))))))))
            case wkt =>
              refine' walk_val (by rfl) ?at0 (fun K hK => ?bt0); (case at0 => (intro W hW hd; clear hd; go_simp; first | exact ⟨Ext.rf _, rfl⟩ | rfl)); (go_simp; refine hK _ ?_; clear hK K)
              refine' walk_val (by rfl) ?at1 (fun K hK => ?bt1); (case at1 => (intro W hW hd; clear hd; go_simp; first | exact ⟨Ext.rf _, rfl⟩ | rfl)); (go_simp; refine hK _ ?_; clear hK K)
              refine' walk_val (by rfl) ?at2 (fun K hK => ?bt2); (case at2 => (intro W hW hd; clear hd; go_simp; first | exact ⟨Ext.rf _, rfl⟩ | rfl)); (go_simp; refine hK _ ?_; clear hK K)
              refine' walk_rel (by rfl) ?at3 (fun vt3 K hK => ?bt3); (case at3 => (intro W hW hd; go_simp; (clear hd; exact makes_rel (all_is ((HM1).out.ext hW) LB_D1.out)))); (go_simp; refine hK _ ?_; clear hK K)
              refine' walk_val (by rfl) ?at4 (fun K hK => ?bt4); (case at4 => (intro W hW hd; clear hd; go_simp; first | exact ⟨Ext.rf _, rfl⟩ | rfl)); (go_simp; refine hK _ ?_; clear hK K)
              refine' walk_val (by rfl) ?at5 (fun K hK => ?bt5); (case at5 => (intro W hW hd; clear hd; go_simp; first | exact ⟨Ext.rf _, rfl⟩ | rfl)); (go_simp; refine hK _ ?_; clear hK K)
              refine' walk_rel (by rfl) ?at6 (fun vt6 K hK => ?bt6); (case at6 => (intro W hW hd; go_simp; (clear hd; exact makes_rel (both_is (kL W hW) (Nat.lt_of_lt_of_le klz hW.size) HN.out HXN.out (by have := HN.out; omega) (by omega) (AL.out.ext hW) (AX.out.ext hW))))); (go_simp; refine hK _ ?_; clear hK K)
              refine' walk_rel (by rfl) ?at7 (fun vt7 K hK => ?bt7); (case at7 => (intro W hW hd; go_simp; (have hm := dep_rel hd ⟨6, .data⟩ 89 vt6 (by simp) (by rfl) (by rfl) (by rfl) (by rfl); clear hd; exact makes_rel (runs_is hm LN_D1.out E_D1.out)))); (go_simp; refine hK _ ?_; clear hK K)
              refine' walk_val (by rfl) ?at8 (fun K hK => ?bt8); (case at8 => (intro W hW hd; go_simp; (have hm := dep_rel hd ⟨3, .data⟩ 86 vt3 (by simp) (by rfl) (by rfl) (by rfl) (by rfl); have hm2 := dep_rel hd ⟨7, .data⟩ 90 vt7 (by simp) (by rfl) (by rfl) (by rfl) (by rfl); clear hd; exact makes_val (same_is hm hm2 LB_D1.out)))); (go_simp; refine hK _ ?_; clear hK K)
              refine' walk_val (by rfl) ?at9 (fun K hK => ?bt9); (case at9 => (intro W hW hd; clear hd; go_simp; first | exact ⟨Ext.rf _, rfl⟩ | rfl)); (go_simp; refine hK _ ?_; clear hK K)
              refine' walk_val (by rfl) ?at10 (fun K hK => ?bt10); (case at10 => (intro W hW hd; clear hd; go_simp; first | exact ⟨Ext.rf _, rfl⟩ | rfl)); (go_simp; refine hK _ ?_; clear hK K)
              refine' walk_val (by rfl) ?at11 (fun K hK => ?bt11); (case at11 => (intro W hW hd; clear hd; go_simp; first | exact ⟨Ext.rf _, rfl⟩ | rfl)); (go_simp; refine hK _ ?_; clear hK K)
              refine' walk_rel (by rfl) ?at12 (fun vt12 K hK => ?bt12); (case at12 => (intro W hW hd; go_simp; (clear hd; exact makes_rel (all_is ((HM2).out.ext hW) LB_D2.out)))); (go_simp; refine hK _ ?_; clear hK K)
              refine' walk_val (by rfl) ?at13 (fun K hK => ?bt13); (case at13 => (intro W hW hd; clear hd; go_simp; first | exact ⟨Ext.rf _, rfl⟩ | rfl)); (go_simp; refine hK _ ?_; clear hK K)
              refine' walk_val (by rfl) ?at14 (fun K hK => ?bt14); (case at14 => (intro W hW hd; clear hd; go_simp; first | exact ⟨Ext.rf _, rfl⟩ | rfl)); (go_simp; refine hK _ ?_; clear hK K)
              refine' walk_rel (by rfl) ?at15 (fun vt15 K hK => ?bt15); (case at15 => (intro W hW hd; go_simp; (clear hd; exact makes_rel (both_is (kL W hW) (Nat.lt_of_lt_of_le klz hW.size) HN.out HYN.out (by have := HN.out; omega) (by omega) (AL.out.ext hW) (AY.out.ext hW))))); (go_simp; refine hK _ ?_; clear hK K)
              refine' walk_rel (by rfl) ?at16 (fun vt16 K hK => ?bt16); (case at16 => (intro W hW hd; go_simp; (have hm := dep_rel hd ⟨15, .data⟩ 98 vt15 (by simp) (by rfl) (by rfl) (by rfl) (by rfl); clear hd; exact makes_rel (runs_is hm LN_D2.out E_D2.out)))); (go_simp; refine hK _ ?_; clear hK K)
              refine' walk_val (by rfl) ?at17 (fun K hK => ?bt17); (case at17 => (intro W hW hd; go_simp; (have hm := dep_rel hd ⟨12, .data⟩ 95 vt12 (by simp) (by rfl) (by rfl) (by rfl) (by rfl); have hm2 := dep_rel hd ⟨16, .data⟩ 99 vt16 (by simp) (by rfl) (by rfl) (by rfl) (by rfl); clear hd; exact makes_val (same_is hm hm2 LB_D2.out)))); (go_simp; refine hK _ ?_; clear hK K)
              refine' walk_val (by rfl) ?at18 (fun K hK => ?bt18); (case at18 => (intro W hW hd; clear hd; go_simp; first | exact ⟨Ext.rf _, rfl⟩ | rfl)); (go_simp; refine hK _ ?_; clear hK K)
              refine' walk_val (by rfl) ?at19 (fun K hK => ?bt19); (case at19 => (intro W hW hd; clear hd; go_simp; first | exact ⟨Ext.rf _, rfl⟩ | rfl)); (go_simp; refine hK _ ?_; clear hK K)
              refine' walk_val (by rfl) ?at20 (fun K hK => ?bt20); (case at20 => (intro W hW hd; clear hd; go_simp; first | exact ⟨Ext.rf _, rfl⟩ | rfl)); (go_simp; refine hK _ ?_; clear hK K)
              refine' walk_val (by rfl) ?at21 (fun K hK => ?bt21); (case at21 => (intro W hW hd; clear hd; go_simp; first | exact ⟨Ext.rf _, rfl⟩ | rfl)); (go_simp; refine hK _ ?_; clear hK K)
              refine' walk_rel (by rfl) ?at22 (fun vt22 K hK => ?bt22); (case at22 => (intro W hW hd; go_simp; (clear hd; exact makes_rel (runs_is ⟨A, n, c, rfl, HN.out, AL.out.ext hW⟩ LN_D0.out E_D0.out)))); (go_simp; refine hK _ ?_; clear hK K)
              refine' walk_val (by rfl) ?at23 (fun K hK => ?bt23); (case at23 => (intro W hW hd; go_simp; (have hm2 := dep_rel hd ⟨22, .data⟩ 105 vt22 (by simp) (by rfl) (by rfl) (by rfl) (by rfl); clear hd; exact makes_val (same_is (IsRn.st _ _ _ OUT.out hW) hm2 LB_D0.out)))); (go_simp; refine hK _ ?_; clear hK K)
              refine' walk_val (by rfl) ?at24 (fun K hK => ?bt24); (case at24 => (intro W hW hd; clear hd; go_simp; first | exact ⟨Ext.rf _, rfl⟩ | rfl)); (go_simp; refine hK _ ?_; clear hK K)
              refine' walk_val (by rfl) ?at25 (fun K hK => ?bt25); (case at25 => (intro W hW hd; clear hd; go_simp; first | exact ⟨Ext.rf _, rfl⟩ | rfl)); (go_simp; refine hK _ ?_; clear hK K)
              refine walk_end (fun W hW hfin => ?_)
              have B9 : Below w.heap.size w W := B8.trans (hW.mono B8.size)
              clear hfin
              go_wp2
              go_ret
              exact ⟨rfl, B9⟩

end Go.Proofs.Ytlnfpolhccbnpaa
