/-
  TopTells: the walk.
-/
import Derived.Test.YthbjhpfgfpkppaaDoorTO
import Derived.Test.YthbjhpfgfpkppaaDoorS1
import Derived.Test.YthbjhpfgfpkppaaDoorAW
import Derived.Test.YthbjhpfgfpkppaaDoorCC
import Derived.Test.YthbjhpfgfpkppaaDoorNA
import Derived.Test.YthbjhpfgfpkppaaDoorRegionT
namespace Go.Proofs.YthbjhpfgfpkppaaDoor
open Go Go.RowKit

/-- the map and the four sets, as runs tell them -/
def Stt (B : Nat) (W : World) (L : List Rn) : Prop := (∃ A n c, MapAt W B B A n c L) ∧ OfAt W (B + 1) B (fun v => spV v L)
theorem ext_post {w W W' : World} {base mb : Nat} {A : Option Addr} {n c : Nat} {l l' : List Rn} (hE : Ext w W) (hm : MapAt W base mb A n c l) (hb : w.heap.size ≤ base) (hmb : w.heap.size ≤ mb) (hp : MapPost base mb A n c l' W W') : Ext w W' := by
  obtain ⟨A', n', c', h1, h2, h3⟩ := hp
  exact hE.trans (h2.below hE.size hmb (fun k hk => by have := (World.ownsRow.lt hm.own k hk).1; omega))
theorem stt_post {B n c : Nat} {W W' : World} {A : Option Addr} {L L' : List Rn} {E : Nat → List Sp} (hm : MapAt W B B A n c L) (ho : OfAt W (B + 1) B E) (he : ∀ j, j < 4 → E j = spV j L') (hp : MapPost B B A n c L' W W') : Stt B W' L' := by
  obtain ⟨A', n', c', h1, h2, h3⟩ := hp
  exact ⟨⟨A', n', c', h1⟩, (ho.two hm h2).congr he⟩
theorem row_of {W : World} {b0 mb n c : Nat} {A : Option Addr} {L : List Rn} (hm : MapAt W b0 mb A n c L) : ∀ k, (Value.slice A n c).ownBlock = some k → ∃ cur, W.heap[k]? = some (.cells cur 61 (0, 0)) := fun k hk => by
  rcases hm.own.2 with ⟨e, _⟩ | ⟨g, cap, cur, e, _, hg, _⟩
  · rw [e] at hk; simp [Value.ownBlock] at hk
  · rw [e] at hk
    simp only [Value.ownBlock, Option.some.injEq] at hk
    exact ⟨cur, by rw [← hk]; exact hg⟩
theorem own_two {W W' : World} {base mb b0 n c : Nat} {A : Option Addr} {L : List Rn} {s : Value} {l : List Sp} (hs : Rg.OwnS W base s l) (hm : MapAt W b0 mb A n c L) (ht : Two W W' mb (Value.slice A n c).ownBlock) : Rg.OwnS W' base s l :=
  OwnS.two hs ht (own_ne hs (show W.heap[mb]? = some (.cells #[.slice A n c] 48 (0, 0)) from hm.box) (fun cs e => by simp at e)) fun k hk e => by
    obtain ⟨cur, hc⟩ := row_of hm k e.symm
    exact own_ne hs hc (fun cs e => by simp at e) k hk rfl
theorem set_two {W W' : World} {mb b0 n c p : Nat} {A : Option Addr} {L : List Rn} {x : Value} (hx : W.heap[p]? = some (.cells #[x] 28 (0, 0))) (hm : MapAt W b0 mb A n c L) (ht : Two W W' mb (Value.slice A n c).ownBlock) : W'.heap[p]? = some (.cells #[x] 28 (0, 0)) := by
  rw [ht.block p (Array.getElem?_eq_some_iff.1 hx).1 (fun e => by
    have hb : W.heap[mb]? = some (.cells #[.slice A n c] 48 (0, 0)) := hm.box
    rw [e, hb] at hx
    simp at hx) (fun e => by
    obtain ⟨cur, hc⟩ := row_of hm p e.symm
    rw [hx] at hc
    simp at hc)]
  exact hx
/-- a set whose spans are the call's own -/
def OwnV (base : Nat) (l : List Sp) (v : Value) (W : World) : Prop := ∃ (A : Option Addr) (n c : Nat), v = .agg #[.slice A n c] ∧ Rg.OwnS W base (.slice A n c) l
theorem own_st {base : Nat} {l : List Sp} {v : Value} {W W' : World} (h : Rg.OwnS W base v l) (e : Ext W W') : Rg.OwnS W' base v l :=
  World.ownsRow.kept (row := none) h ⟨e.os, e.tape, e.output, e.size, fun k hk _ => e.block k hk⟩ (by
    cases hv : v.ownBlock with
    | none => exact .inl rfl
    | some g => exact .inr (by simp))
theorem OwnV.st {base : Nat} {l : List Sp} : ∀ v W W', OwnV base l v W → Ext W W' → OwnV base l v W' := fun _ _ _ ⟨A, n, c, e, h⟩ hb => ⟨A, n, c, e, own_st h hb⟩
theorem own_set {base : Nat} {l : List Sp} {A : Option Addr} {n c : Nat} {W : World} (h : Rg.OwnS W base (.slice A n c) l) (hc : Canon l) : Rg.IsSet W (.agg #[.slice A n c]) l := ⟨_, rfl, Rg.IsSp.own h, hc⟩
theorem own_but {W W' : World} {base ob b0 : Nat} {v : Value} {l : List Sp} {D : Nat → List Sp} (h : Rg.OwnS W base v l) (ho : OfAt W ob b0 D) (hb : But ob W W') : Rg.OwnS W' base v l := by
  obtain ⟨s0, s1, s2, s3, hk, _⟩ := ho
  exact OwnS.two h (Two.but hb) (own_ne h hk (fun cs e => by simp at e)) fun k h1 e => own_ne h hk (fun cs e => by simp at e) k h1 (Option.some.inj e)
theorem less_own {base b1 b2 n c n' c' : Nat} {A A' : Option Addr} {a b out : List Sp} {W : World} (h : Rg.OwnS W b1 (.slice A n c) a) (k : Rg.OwnS W b2 (.slice A' n' c') b) (ha : Canon a) (hb : Canon b) (hl : a.length ≤ 1000) (hl' : b.length ≤ 1000) (hB : base ≤ W.heap.size) (ho : Rg.keepL 3 a b = out) :
    Calls Tryd.prog 7 #[.agg #[.slice A n c], .agg #[.slice A' n' c']] W fun e w' => ∃ v, e = .returned v ∧ OwnV base out v w' ∧ Below W.heap.size W w' := by
  subst ho
  refine (Rg.Less_set (own_set h ha) (own_set k hb) (by omega) (by omega)).mono fun e w' ⟨v, he, ⟨s, hs, h1⟩, _, _, h2⟩ => ?_
  obtain ⟨A, c, rfl, _, _⟩ := Rg.IsSp.own h1
  exact ⟨v, he, ⟨A, _, c, hs, Rg.own_mono h1 hB⟩, h2⟩
theorem or_own {base b1 b2 n c n' c' : Nat} {A A' : Option Addr} {a b out : List Sp} {W : World} (h : Rg.OwnS W b1 (.slice A n c) a) (k : Rg.OwnS W b2 (.slice A' n' c') b) (ha : Canon a) (hb : Canon b) (hl : a.length ≤ 1000) (hl' : b.length ≤ 1000) (hB : base ≤ W.heap.size) (ho : Rg.keepL 1 a b = out) :
    Calls Tryd.prog 10 #[.agg #[.slice A n c], .agg #[.slice A' n' c']] W fun e w' => ∃ v, e = .returned v ∧ OwnV base out v w' ∧ Below W.heap.size W w' := by
  subst ho
  refine (Rg.Or_set (own_set h ha) (own_set k hb) (by omega) (by omega)).mono fun e w' ⟨v, he, ⟨s, hs, h1⟩, _, _, h2⟩ => ?_
  obtain ⟨A, c, rfl, _, _⟩ := Rg.IsSp.own h1
  exact ⟨v, he, ⟨A, _, c, hs, Rg.own_mono h1 hB⟩, h2⟩
theorem own_box {W W' : World} {base p : Nat} {v x : Value} {l : List Sp} (h : Rg.OwnS W base v l) (hp : W.heap[p]? = some (.cells #[x] 28 (0, 0))) (hb : But p W W') : Rg.OwnS W' base v l :=
  OwnS.two h (Two.but hb) (own_ne h hp (fun cs e => by simp at e)) fun k h1 e => own_ne h hp (fun cs e => by simp at e) k h1 (Option.some.inj e)
theorem map_box {W W' : World} {b0 mb n c p : Nat} {A : Option Addr} {L : List Rn} {x : Value} (hm : MapAt W b0 mb A n c L) (hp : W.heap[p]? = some (.cells #[x] 28 (0, 0))) (hb : But p W W') : MapAt W' b0 mb A n c L := by
  refine map_but hm hb (fun e => ?_) fun k hk e => ?_
  · have hx : W.heap[mb]? = some (.cells #[.slice A n c] 48 (0, 0)) := hm.box
    rw [e, hp] at hx
    simp at hx
  · obtain ⟨cur, hc⟩ := row_of hm k hk
    rw [e, hp] at hc
    simp at hc
theorem box_set {W : World} {p : Nat} {x y : Value} {t : TypeId} (h : W.heap[p]? = some (.cells #[x] t (0, 0))) : (W.setCell ⟨p, 0, none⟩ y).heap[p]? = some (.cells #[y] t (0, 0)) := Box.set (W := W) (p := p) (t := t) (v := x) y h
theorem of_is {base mb n c : Nat} {A : Option Addr} {D : List Rn} {v : Int} {L : List Sp} {W : World} (h : MapAt W base mb A n c D) (hb : D.length ≤ 1000) (he : Rg.normL (spV v D) = L) :
    Calls Tryd.prog 11 #[.pointer (some ⟨mb, 0, none⟩), .int .u8 v] W fun e w' => ∃ u, e = .returned u ∧ Rg.IsSet w' u L ∧ Below W.heap.size W w' := by
  subst he
  exact OfM_any _ A n c D v W (Lists.map h.box.cell h.box.lt) h.len (by have := h.len; omega) h.at_
theorem known_is {base mb n c : Nat} {A : Option Addr} {D : List Rn} {L : List Sp} {W : World} (h : MapAt W base mb A n c D) (hb : D.length ≤ 1000) (he : L = Rg.normL (spK D)) :
    Calls Tryd.prog 14 #[.pointer (some ⟨mb, 0, none⟩)] W fun e w' => ∃ u, e = .returned u ∧ Rg.IsSet w' u L ∧ Below W.heap.size W w' := by
  subst he
  exact KnownM_any _ A n c D W (Lists.map h.box.cell h.box.lt) h.len (by have := h.len; omega) h.at_
theorem len_is {base mb n c : Nat} {A : Option Addr} {D : List Rn} {W : World} (h : MapAt W base mb A n c D) :
    Calls Tryd.prog 15 #[.pointer (some ⟨mb, 0, none⟩)] W fun e w' => e = .returned (.int .i64 n) ∧ Below W.heap.size W w' :=
  (len_map _ A n c W (Lists.map h.box.cell h.box.lt)).mono fun e w' ⟨h1, h2⟩ => ⟨h1, by rw [h2]; exact Below.refl _ _⟩
theorem same_is {W : World} {v u : Value} {l : List Sp} (h : Rg.IsSet W v l) (k : Rg.IsSet W u l) (hm : l.length ≤ 1000) :
    Calls Tryd.prog 12 #[v, u] W fun e w' => e = .returned (.bool true) ∧ Below W.heap.size W w' :=
  (Rg.Same_set h k (by omega)).mono fun e w' ⟨h1, h2⟩ => ⟨by rw [h1]; simp, h2⟩
theorem allV_len {l : List Rn} (h : Good 0 none l) (h4 : Told4 l) : (allV l 4).length ≤ l.length := by
  rw [allV_all h h4]
  have := Rg.normL_len (spK l)
  have : (spK l).length = l.length := by unfold spK; simp
  omega
theorem allV_short {l : List Rn} (h : Good 0 none l) (h4 : Told4 l) (hl : l.length ≤ 60) (k : Nat) : (allV l k).length ≤ 300 := by
  have e : allV l k = Rg.normL (spK (l.filter fun r => decide (r.2.2 < (k : Int)))) :=
    canon_unique (allV_facts h k).1 (Rg.normL_norm _).1 fun p => by
      rw [(allV_facts h k).2 p, (Rg.normL_norm _).2 p]
      constructor
      · rintro ⟨v, hv, q⟩
        obtain ⟨r, hr, h1, h2, h3⟩ := tell_some q
        have := good_mem h r hr
        exact ⟨(r.1, r.2.1), List.mem_map.2 ⟨r, List.mem_filter.2 ⟨hr, by simp; omega⟩, rfl⟩, by unfold opnI at this; unfold InS; simp only; omega⟩
      · rintro ⟨x, hx, q⟩
        obtain ⟨r, hr, rfl⟩ := List.mem_map.1 hx
        obtain ⟨hr, hk⟩ := List.mem_filter.1 hr
        have hk : r.2.2 < (k : Int) := by simpa using hk
        have h3 := h4 r hr
        have q2 : InL (spV r.2.2 l) p := ⟨(r.1, r.2.1), List.mem_map.2 ⟨r, List.mem_filter.2 ⟨hr, by simp⟩, rfl⟩, q⟩
        rw [spV_in h] at q2
        exact ⟨r.2.2.toNat, by omega, by rw [q2]; congr 1; omega⟩
  rw [e]
  have := Rg.normL_len (spK (l.filter fun r => decide (r.2.2 < (k : Int))))
  have : (spK (l.filter fun r => decide (r.2.2 < (k : Int)))).length ≤ l.length := by unfold spK; rw [List.length_map]; exact List.length_filter_le _ _
  omega
theorem or_set {base b1 b2 : Nat} {v u : Value} {a b out : List Sp} {W : World} (h : OwnV b1 a v W) (k : OwnV b2 b u W) (ha : Canon a) (hb : Canon b) (hl : a.length ≤ 1000) (hl' : b.length ≤ 1000) (hB : base ≤ W.heap.size) (ho : Rg.keepL 1 a b = out) :
    Calls Tryd.prog 10 #[v, u] W fun e w' => ∃ v, e = .returned v ∧ OwnV base out v w' ∧ Below W.heap.size W w' := by
  obtain ⟨_, _, _, rfl, h⟩ := h
  obtain ⟨_, _, _, rfl, k⟩ := k
  exact or_own h k ha hb hl hl' hB ho
theorem one_any (b : Nat) (x y : Int) (W : World) (h0 : W.cell? ⟨b, 0, none⟩ = some (.int .i64 x)) (h1 : W.cell? ⟨b, 0 + 1, none⟩ = some (.int .i64 y)) (hb : b < W.heap.size) :
    Calls Tryd.prog 6 #[.slice (some ⟨b, 0, none⟩) 1 1] W fun e w' => ∃ (A : Option Addr) (n c : Nat), e = .returned (.agg #[.slice A n c]) ∧ Rg.OwnS w' W.heap.size (.slice A n c) (one x y) ∧ Below W.heap.size W w' := by
  refine (Rg.Of_own (some ⟨b, 0, none⟩) 1 [(x, y)] W (by simp) fun _ => ⟨b, 0, rfl, hb, fun j hj => by
    match j, hj with
    | 0, _ => exact ⟨h0, h1⟩
    | j + 1, hj => exact absurd hj (by simp)⟩).mono fun e w' ⟨v, out, he, ho, hc, hi, _, hb⟩ => ?_
  have e := (Rg.Norm.is (l := [(x, y)]) ⟨hc, hi⟩)
  subst e
  obtain ⟨A, c, rfl, _, _⟩ := Rg.IsSp.own ho
  exact ⟨A, _, c, he, Rg.own_mono ho (Nat.le_succ _), hb⟩

set_option maxHeartbeats 16000000 in
set_option maxRecDepth 100000 in
theorem walk_TopTells (A : Option Addr) (n c : Nat) (l : List Pt) (w : World) (hn : l.length = n) (hmx : n ≤ maxLen) (hs : PtAt w w.heap.size A l) (hv : ∀ x ∈ l, 0 ≤ x.2.2.1 ∧ x.2.2.1 < 256) :
    Calls Tryd.prog 3 #[.slice A n c] w fun e w' => e = .returned (.bool true) ∧ Below w.heap.size w w' := by
  have HS := Lib.hid hs
  have HN := Lib.hid hn
  have HV := Lib.hid hv
  clear hs hn hv
  unfold maxLen at hmx
  by_cases h1 : (30 : Int) < (n : Int)
  · go_enter Tryd.func3, Tryd.ntmps3
    go_wp2_with fail
    with_reducible refine (Rg.alive_any _).mono ?_
    rintro e w1 ⟨rfl, E2⟩
    go_wp2
    go_ret
    exact ⟨rfl, E2⟩
  · have HN30 : Hid (n ≤ 30) := by unfold Hid; omega
    go_enter Tryd.func3, Tryd.ntmps3
    go_wp2_with (go_at_call 5; refine (new_any _).mono ?_; rintro e w1 ⟨rfl, rfl⟩)
    go_loopw [23] (fun i wr => ∃ k : Nat, k ≤ n ∧ i = .int .i64 k ∧ Stt w.heap.size wr (actsP (l.take k)) ∧ Ext w wr) (fun i _ => n - (intOf i).toNat)
    case atStart =>
      have hE : Ext w (w.alloc (.cells #[.slice none 0 0] 48)) := (Below.refl _ _).alloc (Nat.le_refl _) _
      refine ⟨0, Nat.zero_le _, rfl, ⟨⟨_, _, _, (new_map w).ext ((Below.refl _ _).alloc (Nat.le_refl _) _)⟩, ⟨.slice none 0 0, .slice none 0 0, .slice none 0 0, .slice none 0 0, ?_, World.ownsRow_nil _ _ _ _, World.ownsRow_nil _ _ _ _, World.ownsRow_nil _ _ _ _, World.ownsRow_nil _ _ _ _⟩⟩, hE.alloc hE.size _⟩
      exact heap_new' _ _ (by simp)
    case round =>
      obtain ⟨k, hk, rfl, ⟨⟨A2, n2, c2, hmap⟩, hof⟩, hE⟩ := hrel
      by_cases hlt : k < n
      · have hkl : k < l.length := by have := HN.out; omega
        obtain ⟨b, o, rfl, hbb, hc⟩ := (HS.out.ext hE) (by have := HN.out; omega)
        obtain ⟨c0, c1, c2', c3⟩ := hc k hkl
        clear hc
        have HT := Lib.hid (actsP_take hkl)
        have HXV := Lib.hid (HV.out _ (List.getElem_mem hkl))
        obtain ⟨hg, h4, hl⟩ := actsP_facts (l.take k)
        rw [List.length_take] at hl
        have hl60 : (actsP (l.take k)).length ≤ 60 := by have := HN30.out; omega
        clear hl
        have HG := Lib.hid hg
        have HL := Lib.hid hl60
        clear hg h4 hl60
        generalize actsP (l.take k) = D at *
        generalize l[k] = X at *
        obtain ⟨x, y, v, d⟩ := X
        simp only at c0 c1 c2' c3 HXV
        have hz1 : w.heap.size + 1 < wr.heap.size := hof.lt
        have hwz := hE.size
        have e1 : Ext wr (wr.alloc (.cells #[.int .i64 x, .int .i64 y, .int .u8 v, .bool d] 33)) := (Below.refl _ _).alloc (Nat.le_refl _) _
        go_wp2_with fail
        have e2 : Ext wr ((wr.alloc (.cells #[.int .i64 x, .int .i64 y, .int .u8 v, .bool d] 33)).alloc (.cells #[.int .i64 x, .int .i64 y] 31)) := e1.alloc e1.size _
        have HO := one_any (wr.heap.size + 1) x y ((wr.alloc (.cells #[.int .i64 x, .int .i64 y, .int .u8 v, .bool d] 33)).alloc (.cells #[.int .i64 x, .int .i64 y] 31)) (by go_simp) (by go_simp) (by simp)
        with_reducible refine HO.mono ?_
        rintro e w3 ⟨As, ns, cs, rfl, hso, hb3⟩
        clear HO
        have E3 : Ext wr w3 := e2.tr hb3
        obtain ⟨hc3, hf3⟩ := bcell hb3
        have hz3 : wr.heap.size + 1 < w3.heap.size := by have := hb3.size; simp at this; omega
        have hz3' : wr.heap.size < w3.heap.size ∧ w.heap.size < w3.heap.size ∧ w.heap.size + 1 < w3.heap.size := by omega
        have p0 : w3.cell? ⟨wr.heap.size, 0, none⟩ = some (.int .i64 x) := by rw [hc3 _ _ (by simp only [World.size_alloc]; omega)]; go_simp
        have p1 : w3.cell? ⟨wr.heap.size, 1, none⟩ = some (.int .i64 y) := by rw [hc3 _ _ (by simp only [World.size_alloc]; omega)]; go_simp
        have p2 : w3.cell? ⟨wr.heap.size, 2, none⟩ = some (.int .u8 v) := by rw [hc3 _ _ (by simp only [World.size_alloc]; omega)]; go_simp
        have p3 : w3.cell? ⟨wr.heap.size, 3, none⟩ = some (.bool d) := by rw [hc3 _ _ (by simp only [World.size_alloc]; omega)]; go_simp
        clear hb3 hc3 hf3 e1 e2 c0 c1 c2' c3 hbb
        go_wp2_with fail
        have htm : v.tmod 4 = v % 4 := Int.tmod_eq_emod_of_nonneg HXV.out.1
        rw [htm]
        clear htm
        obtain ⟨q, hq, hqv⟩ : ∃ q : Nat, q < 4 ∧ v % 4 = (q : Int) := ⟨(v % 4).toNat, by omega, by omega⟩
        have HF1 : Hid (d = true → dropI D x y = actsP (l.take (k + 1))) := fun e => by rw [HT.out]; unfold actP; simp only [e, if_true]
        have HF2 : Hid (d = false → putI D x y q = actsP (l.take (k + 1))) := fun e => by rw [HT.out]; unfold actP; simp only [e, hqv]; rfl
        rw [hqv]
        clear hqv HT
        -- behind the set's variable
        have E4 : Ext w3 (w3.alloc (.cells #[.slice As ns cs] 28)) := (Below.refl _ _).alloc (Nat.le_refl _) _
        have m0 : (w3.alloc (.cells #[.slice As ns cs] 28)).cell? ⟨wr.heap.size, 0, none⟩ = some (.int .i64 x) := by go_simp
        have m1 : (w3.alloc (.cells #[.slice As ns cs] 28)).cell? ⟨wr.heap.size, 1, none⟩ = some (.int .i64 y) := by go_simp
        have m3 : (w3.alloc (.cells #[.slice As ns cs] 28)).cell? ⟨wr.heap.size, 3, none⟩ = some (.bool d) := by go_simp
        have ms : (w3.alloc (.cells #[.slice As ns cs] 28)).cell? ⟨w3.heap.size, 0, none⟩ = some (.slice As ns cs) := by go_simp
        have hsb := heap_alloc_new w3 (.cells #[.slice As ns cs] 28)
        have zs : w3.heap.size < (w3.alloc (.cells #[.slice As ns cs] 28)).heap.size := by simp
        have hso4 := Lib.hid (own_st hso E4)
        have hof4 := (hof.ext E3).ext E4
        have hmap4 := (hmap.ext E3).ext E4
        have E04 : Ext w (w3.alloc (.cells #[.slice As ns cs] 28)) := (hE.tr E3).tr E4
        have hzm : w3.heap.size ≤ (w3.alloc (.cells #[.slice As ns cs] 28)).heap.size := E4.size
        generalize w3.alloc (.cells #[.slice As ns cs] 28) = w4 at *
        clear hso hof hmap E3 E4 p0 p1 p2 p3 hE
        generalize wr.heap.size = pb at *
        generalize w3.heap.size = sb at *
        have HO4 := Lib.hid hof4
        have HSB := Lib.hid hsb
        clear hsb
        have HM4 := Lib.hid hmap4
        clear hof4 hmap4
        go_loopw [34] (fun i wi => ∃ j : Nat, j ≤ 4 ∧ i = .int .i64 j ∧ OfAt wi (w.heap.size + 1) w.heap.size (fun u => if u < j then spV u (dropI D x y) else spV u D) ∧ But (w.heap.size + 1) w4 wi) (fun i _ => 4 - (intOf i).toNat)
        case atStart => exact ⟨0, by omega, rfl, HO4.out.congr (fun j _ => by simp), But.ext (Below.refl _ _)⟩
        case round =>
          obtain ⟨j, hj, rfl, hoi, hbi⟩ := hrel
          have hzi := hbi.size
          have kc : ∀ b' o', b' < w4.heap.size → b' ≠ w.heap.size + 1 → wr.cell? ⟨b', o', none⟩ = w4.cell? ⟨b', o', none⟩ := fun b' o' h h' => World.cell?_of_block (hbi.block b' h (fun e => h' (Option.some.inj e)))
          have g0 : wr.cell? ⟨pb, 0, none⟩ = some (.int .i64 x) := (kc _ _ (by omega) (by omega)).trans m0
          have g1 : wr.cell? ⟨pb, 1, none⟩ = some (.int .i64 y) := (kc _ _ (by omega) (by omega)).trans m1
          have g3 : wr.cell? ⟨pb, 3, none⟩ = some (.bool d) := (kc _ _ (by omega) (by omega)).trans m3
          have gs : wr.cell? ⟨sb, 0, none⟩ = some (.slice As ns cs) := (kc _ _ (by omega) (by omega)).trans ms
          have hsi := Lib.hid (own_but hso4.out HO4.out hbi)
          by_cases hj4 : j < 4
          · obtain ⟨Aj, nj, cj, oc, -, -, ho⟩ := hoi.get hj4
            simp only [Nat.lt_irrefl, if_false] at ho
            have how := Lib.hid ho
            have hfr := hoi.free j
            have hlo := hoi.lt
            have hlj : ∀ W, Ext wr W → Calls Tryd.prog 7 #[.agg #[.slice Aj nj cj], .agg #[.slice As ns cs]] W fun e w' => ∃ v, e = .returned v ∧ OwnV w.heap.size (spV j (dropI D x y)) v w' ∧ Below W.heap.size W w' := fun W hW =>
              less_own (own_st how.out hW) (own_st hsi.out hW) (spV_can HG.out _) (one_can x y) (by have := spV_len j D; have := HL.out; omega) (by have := one_len x y; omega) (by have := hW.size; omega) (less_spV HG.out _ x y)
            have k0 : ∀ W, Ext wr W → W.cell? ⟨w.heap.size + 1, j, none⟩ = some (.slice Aj nj cj) := fun W h => by rw [h.cell (p := ⟨w.heap.size + 1, j, none⟩) hlo]; exact oc
            have k1 : ∀ W, Ext wr W → W.cell? ⟨sb, 0, none⟩ = some (.slice As ns cs) := fun W h => by rw [h.cell (p := ⟨sb, 0, none⟩) (by show sb < _; omega)]; exact gs
            have HOI := Lib.hid hoi
            clear hoi ho kc g0 g1 g3 gs m0 m1 m3 ms
            go_wp2
            refine' wp_region_made_tail (m := 6) (rels := relsOf ((.val _) :: (.val _) :: (.val _) :: (.val _) :: (.val _) :: (.rel (fun v W => OwnV w.heap.size (spV j (dropI D x y)) v W)) :: [])) (w := wr) 98 (by kernel_rfl) (by kernel_rfl) (by rfl) (relsOf_stable ?sta) ?wka
            case sta => exact stable_val (stable_val (stable_val (stable_val (stable_val (stable_rel OwnV.st (stable_nil))))))
            case wka =>
              refine' walkT_val (by rfl) ?aa0 (fun K hK => ?ba0); (case aa0 => (intro W hW hd; clear hd; go_simp; first | exact ⟨Ext.rf _, rfl⟩ | rfl)); (go_simp; refine hK _ ?_; clear hK K)
              refine' walkT_val (by rfl) ?aa1 (fun K hK => ?ba1); (case aa1 => (intro W hW hd; clear hd; go_simp; first | exact ⟨Ext.rf _, rfl⟩ | rfl)); (go_simp; refine hK _ ?_; clear hK K)
              refine' walkT_val (by rfl) ?aa2 (fun K hK => ?ba2); (case aa2 => (intro W hW hd; clear hd; go_simp; first | exact ⟨Ext.rf _, rfl⟩ | rfl)); (go_simp; refine hK _ ?_; clear hK K)
              refine' walkT_val (by rfl) ?aa3 (fun K hK => ?ba3); (case aa3 => (intro W hW hd; clear hd; go_simp; first | exact ⟨Ext.rf _, rfl⟩ | rfl)); (go_simp; refine hK _ ?_; clear hK K)
              refine' walkT_val (by rfl) ?aa4 (fun K hK => ?ba4); (case aa4 => (intro W hW hd; clear hd; go_simp; first | exact ⟨Ext.rf _, rfl⟩ | rfl)); (go_simp; refine hK _ ?_; clear hK K)
              refine' walkT_rel (by rfl) ?aa5 (fun va5 K hK => ?ba5); (case aa5 => (intro W hW hd; go_simp; (clear hd; exact makes_rel (hlj W hW)))); (go_simp; refine hK _ ?_; clear hK K)
              refine walkT_end (fun W hW hfin => ?_)
              have hp := finT_rel hfin 5 42 _ (by decide) (by rfl) (by rfl) (by rfl)
              have oW := k0 W hW
              clear hfin k0 k1 hlj
              obtain ⟨An, nn, cn, rfl, hown⟩ := hp
              have hoW := HOI.out.ext hW
              have hfW := hoW.free j
              have hlW := hoW.lt
              have hset := Lib.hid ((hoW.set hj4 hown).congr (E := fun u => if u < j + 1 then spV u (dropI D x y) else spV u D) (fun u hu => by
                by_cases e : u = j
                · subst e; simp
                · have : (u < j + 1) = (u < j) := by apply propext; omega
                  simp only [if_neg e, this]))
              have hbs : Hid (But (w.heap.size + 1) w4 (W.setCell ⟨w.heap.size + 1, j, none⟩ (.slice An nn cn))) := (hbi.tr (But.ext hW)).tr (But.setAt _ _ _ _)
              clear hown hoW
              simp only [List.drop_succ_cons, List.drop_zero]
              go_wp2
              go_roundw
              case rel => exact ⟨j + 1, by omega, by go_num, hset.out, hbs.out⟩
              case measure => simp [intOf]; omega
          · obtain rfl : j = 4 := by omega
            have HOI := Lib.hid (hoi.congr (E := fun u => spV u (dropI D x y)) (fun u hu => by simp only [if_pos hu]))
            have HMI := Lib.hid (MapAt.but HM4.out HO4.out hbi)
            have hgd := dropI_good x y HG.out
            have E0i : Hid (Ext w wr) := E04.trans ⟨hbi.os, hbi.tape, hbi.output, hbi.size, fun k hk => hbi.block k (by have := E04.size; omega) (fun e => by have := Option.some.inj e; omega)⟩
            have HSI := Lib.hid ((hbi.block sb (by omega) (fun e => by have := Option.some.inj e; omega)).trans HSB.out)
            have hln := HMI.out.len
            have hzw := E0i.out.size
            have HL60 : Hid (n2 ≤ 60) := by have := HL.out; unfold Hid; omega
            clear hoi m0 m1 m3 ms kc hbi E04 hln
            cases d with
            | true =>
              have HF := Lib.hid (HF1.out rfl)
              clear HF1 HF2
              have HD := Lib.hid (drop_any w.heap.size w.heap.size A2 n2 c2 D x y wr HMI.out HG.out (by have := HL60.out; omega) hzw)
              go_wp2_with (go_at_call 8; refine (Hid.out HD).mono ?_; rintro e w5 ⟨rfl, hp⟩; have HR := Lib.hid (stt_post HMI.out HOI.out (fun _ _ => rfl) hp); have HR2 := Lib.hid (ext_post E0i.out HMI.out (Nat.le_refl _) (Nat.le_refl _) hp); clear hp)
              go_roundw
              case rel => exact ⟨k + 1, by omega, by go_num, by rw [← HF.out]; exact HR.out, HR2.out⟩
              case measure => simp [intOf]; omega
            | false =>
              have HF := Lib.hid (HF2.out rfl)
              clear HF1 HF2
              have HP := put_any w.heap.size w.heap.size A2 n2 c2 D x y q wr HMI.out HG.out (by have := HL60.out; omega) hzw
              generalize (if 0 < lenI x y then (0 : Int) else 1) = rr at HP
              go_wp2_with fail
              with_reducible refine HP.mono ?_
              rintro e w5 ⟨rfl, hp⟩
              have HR2 := Lib.hid (ext_post E0i.out HMI.out (Nat.le_refl _) (Nat.le_refl _) hp)
              obtain ⟨A5, n5, c5, hm5, ht5, -⟩ := hp
              have HM5 := Lib.hid hm5
              have HO5 := Lib.hid (HOI.out.two HMI.out ht5)
              have hs5 := Lib.hid (own_two hsi.out HMI.out ht5)
              have hb5 := set_two HSI.out HMI.out ht5
              have hz5 := ht5.size
              clear hm5 ht5 HP g0 g1 g3 gs
              obtain ⟨Aj, nj, cj, oc, -, -, ho⟩ := HO5.out.get hq
              have how := Lib.hid ho
              have hfr := HO5.out.free q
              have hlo := HO5.out.lt
              have hqi : (q : Int) < 4 := by omega
              have hsc : w5.cell? ⟨sb, 0, none⟩ = some (.slice As ns cs) := by rw [cell_of_row w5 sb 0 _ _ _ hb5]; rfl
              have hsl : sb < w5.heap.size := (Array.getElem?_eq_some_iff.1 hb5).1
              have hlj : ∀ W, Ext w5 W → Calls Tryd.prog 10 #[.agg #[.slice Aj nj cj], .agg #[.slice As ns cs]] W fun e w' => ∃ v, e = .returned v ∧ OwnV w.heap.size (spV q (putI D x y q)) v w' ∧ Below W.heap.size W w' := fun W hW =>
                or_own (own_st how.out hW) (own_st hs5.out hW) (spV_can hgd _) (one_can x y) (by have := spV_len q (dropI D x y); have := dropI_len x y HG.out; have := HL.out; omega) (by have := one_len x y; omega) (by have := hW.size; omega) (or_spV HG.out _ x y)
              have k0 : ∀ W, Ext w5 W → W.cell? ⟨w.heap.size + 1, q, none⟩ = some (.slice Aj nj cj) := fun W h => by rw [h.cell (p := ⟨w.heap.size + 1, q, none⟩) hlo]; exact oc
              have k1 : ∀ W, Ext w5 W → W.cell? ⟨sb, 0, none⟩ = some (.slice As ns cs) := fun W h => by rw [h.cell (p := ⟨sb, 0, none⟩) hsl]; exact hsc
              clear ho hb5
              go_wp2
              refine' wp_region_made_tail (m := 6) (rels := relsOf ((.val _) :: (.val _) :: (.val _) :: (.val _) :: (.val _) :: (.rel (fun v W => OwnV w.heap.size (spV q (putI D x y q)) v W)) :: [])) (w := w5) 98 (by kernel_rfl) (by kernel_rfl) (by rfl) (relsOf_stable ?stb) ?wkb
              case stb => exact stable_val (stable_val (stable_val (stable_val (stable_val (stable_rel OwnV.st (stable_nil))))))
              case wkb =>
                refine' walkT_val (by rfl) ?ab0 (fun K hK => ?bb0); (case ab0 => (intro W hW hd; clear hd; go_simp; first | exact ⟨Ext.rf _, rfl⟩ | rfl)); (go_simp; refine hK _ ?_; clear hK K)
                refine' walkT_val (by rfl) ?ab1 (fun K hK => ?bb1); (case ab1 => (intro W hW hd; clear hd; go_simp; first | exact ⟨Ext.rf _, rfl⟩ | rfl)); (go_simp; refine hK _ ?_; clear hK K)
                refine' walkT_val (by rfl) ?ab2 (fun K hK => ?bb2); (case ab2 => (intro W hW hd; clear hd; go_simp; first | exact ⟨Ext.rf _, rfl⟩ | rfl)); (go_simp; refine hK _ ?_; clear hK K)
                refine' walkT_val (by rfl) ?ab3 (fun K hK => ?bb3); (case ab3 => (intro W hW hd; clear hd; go_simp; first | exact ⟨Ext.rf _, rfl⟩ | rfl)); (go_simp; refine hK _ ?_; clear hK K)
                refine' walkT_val (by rfl) ?ab4 (fun K hK => ?bb4); (case ab4 => (intro W hW hd; clear hd; go_simp; first | exact ⟨Ext.rf _, rfl⟩ | rfl)); (go_simp; refine hK _ ?_; clear hK K)
                refine' walkT_rel (by rfl) ?ab5 (fun vb5 K hK => ?bb5); (case ab5 => (intro W hW hd; go_simp; (clear hd; exact makes_rel (hlj W hW)))); (go_simp; refine hK _ ?_; clear hK K)
                refine walkT_end (fun W hW hfin => ?_)
                have hp := finT_rel hfin 5 61 _ (by decide) (by rfl) (by rfl) (by rfl)
                have oW := k0 W hW
                clear hfin k0 k1 hlj
                obtain ⟨An, nn, cn, rfl, hown⟩ := hp
                have hoW := HO5.out.ext hW
                have hfW := hoW.free q
                have hlW := hoW.lt
                have hset := Lib.hid ((hoW.set hq hown).congr (E := fun u => spV u (putI D x y q)) (fun u hu => by
                  by_cases e : u = q
                  · subst e; simp
                  · simp only [if_neg e]; exact other_spV HG.out _ _ x y (by omega)))
                have hmW := Lib.hid (MapAt.but (HM5.out.ext hW) hoW (But.setAt (w.heap.size + 1) q W (.slice An nn cn)))
                have hbs : Hid (Ext w (W.setCell ⟨w.heap.size + 1, q, none⟩ (.slice An nn cn))) := (HR2.out.trans (hW.mono HR2.out.size)).setCell (by show w.heap.size ≤ w.heap.size + 1; omega) _
                clear hown hoW
                simp only [List.drop_succ_cons, List.drop_zero]
                go_wp2
                go_roundw
                case rel => exact ⟨k + 1, by omega, by go_num, by rw [← HF.out]; exact ⟨⟨_, _, _, hmW.out⟩, hset.out⟩, hbs.out⟩
                case measure => simp [intOf]; omega
      · obtain rfl : k = n := by omega
        obtain ⟨hg, h4, hl⟩ := actsP_facts (l.take k)
        rw [List.length_take] at hl
        have hl60 : (actsP (l.take k)).length ≤ 60 := by have := HN30.out; omega
        clear hl
        have HG := Lib.hid hg
        have H4 := Lib.hid h4
        have HL := Lib.hid hl60
        clear hg h4 hl60
        generalize actsP (l.take k) = D at *
        have hz1 : w.heap.size + 1 < wr.heap.size := hof.lt
        have hln := hmap.len
        have HM := Lib.hid hmap
        have HE := Lib.hid hE
        obtain ⟨s0, s1, s2, s3, hb, h0, h1', h2, h3⟩ := hof
        obtain ⟨A0, m0, x0, rfl⟩ : ∃ A n c, s0 = Value.slice A n c := by obtain ⟨A, c, e, _, _⟩ := Rg.IsSp.own h0; exact ⟨A, _, c, e⟩
        obtain ⟨A1, m1, x1, rfl⟩ : ∃ A n c, s1 = Value.slice A n c := by obtain ⟨A, c, e, _, _⟩ := Rg.IsSp.own h1'; exact ⟨A, _, c, e⟩
        obtain ⟨A2', m2, x2, rfl⟩ : ∃ A n c, s2 = Value.slice A n c := by obtain ⟨A, c, e, _, _⟩ := Rg.IsSp.own h2; exact ⟨A, _, c, e⟩
        obtain ⟨A3, m3, x3, rfl⟩ : ∃ A n c, s3 = Value.slice A n c := by obtain ⟨A, c, e, _, _⟩ := Rg.IsSp.own h3; exact ⟨A, _, c, e⟩
        have o0 : wr.cell? ⟨w.heap.size + 1, 0, none⟩ = some (.slice A0 m0 x0) := by rw [cell_of_row wr _ 0 _ _ _ hb]; rfl
        have o1 : wr.cell? ⟨w.heap.size + 1, 1, none⟩ = some (.slice A1 m1 x1) := by rw [cell_of_row wr _ 1 _ _ _ hb]; rfl
        have o2 : wr.cell? ⟨w.heap.size + 1, 2, none⟩ = some (.slice A2' m2 x2) := by rw [cell_of_row wr _ 2 _ _ _ hb]; rfl
        have o3 : wr.cell? ⟨w.heap.size + 1, 3, none⟩ = some (.slice A3 m3 x3) := by rw [cell_of_row wr _ 3 _ _ _ hb]; rfl
        have HH := Lib.hid (And.intro h0 (And.intro h1' (And.intro h2 h3)))
        clear h0 h1' h2 h3 hb hmap hE
        go_wp2
        obtain ⟨V, hV⟩ : ∃ V, V = Value.agg #[.slice A0 m0 x0, .slice A1 m1 x1, .slice A2' m2 x2, .slice A3 m3 x3] := ⟨_, rfl⟩
        rw [← hV]
        have hget : ∀ j : Nat, j < 4 → ∃ Aj nj cj, (∀ W, (Instr.index 29 V (.int .i64 j)).run Tryd.prog W = .ok (.agg #[.slice Aj nj cj]) W) ∧ Rg.OwnS wr w.heap.size (.slice Aj nj cj) (spV (j : Int) D) := by
          intro j hj
          match j, hj with
          | 0, _ => exact ⟨_, _, _, fun W => by rw [hV]; kernel_rfl, HH.out.1⟩
          | 1, _ => exact ⟨_, _, _, fun W => by rw [hV]; kernel_rfl, HH.out.2.1⟩
          | 2, _ => exact ⟨_, _, _, fun W => by rw [hV]; kernel_rfl, HH.out.2.2.1⟩
          | 3, _ => exact ⟨_, _, _, fun W => by rw [hV]; kernel_rfl, HH.out.2.2.2⟩
        have HGet := Lib.hid hget
        clear hV hget HH o0 o1 o2 o3
        have hab := heap_alloc_new wr (.cells #[.slice none 0 0] 28)
        have e6 : Ext wr (wr.alloc (.cells #[.slice none 0 0] 28)) := (Below.refl _ _).alloc (Nat.le_refl _) _
        have hz6 : wr.heap.size < (wr.alloc (.cells #[.slice none 0 0] 28)).heap.size := by simp
        have HM6 := Lib.hid (HM.out.ext e6)
        have HE6 := Lib.hid (Ext.tr HE.out e6)
        have HG6 := Lib.hid (fun (j : Nat) (hj : j < 4) => by
          obtain ⟨Aj, nj, cj, h1, h2⟩ := HGet.out j hj
          exact (⟨Aj, nj, cj, h1, own_st h2 e6⟩ : ∃ Aj nj cj, (∀ W, (Instr.index 29 V (.int .i64 j)).run Tryd.prog W = .ok (.agg #[.slice Aj nj cj]) W) ∧ Rg.OwnS (wr.alloc (.cells #[.slice none 0 0] 28)) w.heap.size (.slice Aj nj cj) (spV (j : Int) D)))
        have hwz : w.heap.size + 1 < wr.heap.size := hz1
        generalize wr.alloc (.cells #[.slice none 0 0] 28) = w6 at *
        clear e6 HGet HM HE
        generalize wr.heap.size = ab at *
        have HAB := Lib.hid hab
        clear hab
        have HSM : Hid (∀ j, sumV D j ≤ 60 * j) := fun j => by
          have h := sumV_le H4.out j
          have := HL.out
          have : j * D.length ≤ j * 60 := Nat.mul_le_mul_left j this
          omega
        have HAL : Hid (∀ j, (allV D j).length ≤ 300) := fun j => allV_short HG.out H4.out (by have := HL.out; omega) j
        go_loopw [65, 11] (fun i sm wi => ∃ j : Nat, j ≤ 4 ∧ i = .int .i64 j ∧ sm = .int .i64 (sumV D j : Nat) ∧ (∃ Aa na ca, wi.heap[ab]? = some (.cells #[.slice Aa na ca] 28 (0, 0)) ∧ Rg.OwnS wi w.heap.size (.slice Aa na ca) (allV D j)) ∧ But ab w6 wi) (fun i _ _ => 4 - (intOf i).toNat)
        case atStart => exact ⟨0, by omega, rfl, rfl, ⟨none, 0, 0, HAB.out, World.ownsRow_nil _ _ _ _⟩, But.ext (Below.refl _ _)⟩
        case round =>
          obtain ⟨j, hj, rfl, rfl, ⟨Aa, na, ca, hba, hoa⟩, hbi⟩ := hrel
          have hzi := hbi.size
          have HMi := Lib.hid (map_box HM6.out HAB.out hbi)
          have EWi : Hid (Ext w wr) := HE6.out.trans ⟨hbi.os, hbi.tape, hbi.output, hbi.size, fun k' hk' => hbi.block k' (by omega) (fun e => by have := Option.some.inj e; omega)⟩
          have hla : ab < wr.heap.size := by omega
          have hca : wr.cell? ⟨ab, 0, none⟩ = some (.slice Aa na ca) := by rw [cell_of_row wr ab 0 _ _ _ hba]; rfl
          have hfa : wr.frozen? ⟨ab, 0, none⟩ = false := by simp [World.frozen?, hba]
          have HBA := Lib.hid hba
          have HOA := Lib.hid hoa
          have HBI := Lib.hid hbi
          clear hba hoa hbi
          by_cases hj4 : j < 4
          · obtain ⟨Aj, nj, cj, hidx, hoj⟩ := HG6.out j hj4
            have HOJ := Lib.hid (own_box hoj HAB.out HBI.out)
            have hji : (j : Int) < 4 := by omega
            have hw8 : IntKind.u8.wrap (j : Int) = (j : Int) := IntWalk.u8_in _ (by omega)
            clear hoj
            go_wp2
            have ea : Ext wr (wr.alloc (.cells #[.slice Aj nj cj] 28)) := (Below.refl _ _).alloc (Nat.le_refl _) _
            have hta := heap_alloc_new wr (.cells #[.slice Aj nj cj] 28)
            have hza : wr.heap.size < (wr.alloc (.cells #[.slice Aj nj cj] 28)).heap.size := by simp
            have HMa := Lib.hid (HMi.out.ext ea)
            have HJa := Lib.hid (own_st HOJ.out ea)
            have HOa := Lib.hid (own_st HOA.out ea)
            have HBa := Lib.hid ((ea.block ab hla).trans HBA.out)
            have EWa := Lib.hid (Ext.tr EWi.out ea)
            have HBIa := Lib.hid (HBI.out.tr (But.ext ea))
            generalize wr.alloc (.cells #[.slice Aj nj cj] 28) = wa at *
            clear ea hidx HMi HOJ HOA HBA EWi HBI hca hfa
            generalize wr.heap.size = tb at *
            have HTa := Lib.hid hta
            clear hta
            have k1 : ∀ W, Ext wa W → W.cell? ⟨tb, 0, none⟩ = some (.slice Aj nj cj) := fun W h => by rw [h.cell (p := ⟨tb, 0, none⟩) hza, cell_of_row wa tb 0 _ _ _ HTa.out]; rfl
            have k2 : ∀ W, Ext wa W → W.cell? ⟨ab, 0, none⟩ = some (.slice Aa na ca) := fun W h => by rw [h.cell (p := ⟨ab, 0, none⟩) (by show ab < _; omega), cell_of_row wa ab 0 _ _ _ HBa.out]; rfl
            have hO := fun W (hW : Ext wa W) => of_is (HMa.out.ext hW) (by have := HL.out; omega) (spV_norm HG.out (j : Int))
            have hS : Hid ((spV (j : Int) D).length ≤ 60) := by have := HL.out; have := spV_len j D; unfold Hid; omega
            have hA : Hid ((allV D j).length ≤ 300) := HAL.out j
            refine' wp_region_made (rels := relsOf ((.val _) :: (.val _) :: (.val _) :: (.rel (fun v W => Rg.IsSet W v (spV j D))) :: (.val _) :: (.val _) :: (.val _) :: [])) (w := wa) 98 (by kernel_rfl) (by kernel_rfl) (by rfl) (relsOf_stable ?stc) ?wkc
            case stc => exact stable_val (stable_val (stable_val (stable_rel Rg.IsSet.st (stable_val (stable_val (stable_val (stable_nil)))))))
            case wkc =>
              refine' walk_val (by rfl) ?ac0 (fun K hK => ?bc0); (case ac0 => (intro W hW hd; clear hd; go_simp; first | exact ⟨Ext.rf _, rfl⟩ | rfl)); (go_simp; refine hK _ ?_; clear hK K)
              refine' walk_val (by rfl) ?ac1 (fun K hK => ?bc1); (case ac1 => (intro W hW hd; clear hd; go_simp; first | exact ⟨Ext.rf _, rfl⟩ | rfl)); (go_simp; refine hK _ ?_; clear hK K)
              refine' walk_val (by rfl) ?ac2 (fun K hK => ?bc2); (case ac2 => (intro W hW hd; clear hd; go_simp; first | exact ⟨Ext.rf _, rfl⟩ | rfl)); (go_simp; refine hK _ ?_; clear hK K)
              refine' walk_rel (by rfl) ?ac3 (fun vc3 K hK => ?bc3); (case ac3 => (intro W hW hd; go_simp; (clear hd; exact makes_rel (hO W hW)))); (go_simp; refine hK _ ?_; clear hK K)
              refine' walk_val (by rfl) ?ac4 (fun K hK => ?bc4); (case ac4 => (intro W hW hd; clear hd; go_simp; first | exact ⟨Ext.rf _, rfl⟩ | rfl)); (go_simp; refine hK _ ?_; clear hK K)
              refine' walk_val (by rfl) ?ac5 (fun K hK => ?bc5); (case ac5 => (intro W hW hd; go_simp; (have hm := dep_rel hd ⟨3, .data⟩ 72 vc3 (by simp) (by rfl) (by rfl) (by rfl) (by rfl); clear hd; exact makes_val (same_is hm (own_set (own_st HJa.out hW) (spV_can HG.out _)) (by have := hS.out; omega))))); (go_simp; refine hK _ ?_; clear hK K)
              refine' walk_val (by rfl) ?ac6 (fun K hK => ?bc6); (case ac6 => (intro W hW hd; clear hd; go_simp; first | exact ⟨Ext.rf _, rfl⟩ | rfl)); (go_simp; refine hK _ ?_; clear hK K)
              refine walk_end (fun W hW hfin => ?_)
              have a1 := k1 W hW
              have a2 := k2 W hW
              have hWs := hW.size
              have a3 : W.frozen? ⟨ab, 0, none⟩ = false := by
                have := (hW.block ab (by omega)).trans HBa.out
                simp [World.frozen?, this]
              clear hfin k1 k2 hO hw8
              go_simp
              go_wp2_with fail
              have hor := or_own (base := w.heap.size) (own_st HOa.out hW) (own_st HJa.out hW) (allV_facts HG.out j).1 (spV_can HG.out j) (by have := hA.out; omega) (by have := hS.out; omega) (by omega) (out := allV D (j + 1)) rfl
              with_reducible refine hor.mono ?_
              rintro e w7 ⟨_, rfl, ⟨An, nn, cn, rfl, hown⟩, hb7⟩
              clear hor
              have e7 : Ext wa w7 := hW.tr hb7
              have hz7 := hb7.size
              have b7 := (e7.block ab (by omega)).trans HBa.out
              have c7 : w7.cell? ⟨ab, 0, none⟩ = some (.slice Aa na ca) := by rw [cell_of_row w7 ab 0 _ _ _ b7]; rfl
              have d7 : w7.frozen? ⟨ab, 0, none⟩ = false := by simp [World.frozen?, b7]
              have t7 : w7.cell? ⟨tb, 0, none⟩ = some (.slice Aj nj cj) := by rw [hb7.cell (p := ⟨tb, 0, none⟩) (by show tb < _; omega)]; exact a1
              have hne : tb ≠ ab ∧ ab ≠ tb := by omega
              have l7 : ab < w7.heap.size ∧ tb < w7.heap.size := by omega
              have HO7 := Lib.hid (own_box (own_st HJa.out e7) b7 (But.setAt ab 0 w7 (.slice An nn cn)))
              have HN7 := Lib.hid (own_box hown b7 (But.setAt ab 0 w7 (.slice An nn cn)))
              have HB7 := Lib.hid (box_set (y := .slice An nn cn) b7)
              have HI7 := Lib.hid ((HBIa.out.tr (But.ext e7)).tr (But.setAt ab 0 w7 (.slice An nn cn)))
              clear hown b7 a1 a2 a3
              go_wp2_with fail
              have hsp := Rg.Spans_set (own_set HO7.out (spV_can HG.out j)) (by have := hS.out; omega)
              with_reducible refine hsp.mono ?_
              rintro e w9 ⟨_, rfl, ⟨A9, c9, rfl, -, -⟩, hb9⟩
              clear hsp
              have hl9 : ab < (w7.setCell ⟨ab, 0, none⟩ (.slice An nn cn)).heap.size := by simpa using l7.1
              have HR1 := Lib.hid ((hb9.block ab hl9).trans HB7.out)
              have HR2 := Lib.hid (own_st HN7.out hb9)
              have HR3 := Lib.hid (HI7.out.tr (But.ext hb9))
              have hws : IntKind.i64.wrap ((sumV D j : Nat) + ((spV (j : Int) D).length : Nat) : Int) = (sumV D (j + 1) : Nat) := by
                have := HSM.out j
                have := hS.out
                rw [IntWalk.i64_in _ (by omega)]
                simp only [sumV]; omega
              clear hb9 hl9 c7 d7 t7
              go_wp2
              go_roundw
              case rel => exact ⟨j + 1, by omega, by go_num, by rw [← hws], ⟨An, nn, cn, HR1.out, HR2.out⟩, HR3.out⟩
              case measure => simp [intOf]; omega
          · obtain rfl : j = 4 := by omega
            have hs4 : sumV D 4 = n2 := (sumV_all H4.out).trans hln
            rw [hs4]
            clear hs4 hln hca hfa
            have k2 : ∀ W, Ext wr W → W.cell? ⟨ab, 0, none⟩ = some (.slice Aa na ca) := fun W h => by rw [h.cell (p := ⟨ab, 0, none⟩) hla, cell_of_row wr ab 0 _ _ _ HBA.out]; rfl
            have hK := fun W (hW : Ext wr W) => known_is (HMi.out.ext hW) (by have := HL.out; omega) (allV_all HG.out H4.out)
            have hN := fun W (hW : Ext wr W) => len_is (HMi.out.ext hW)
            have hA : Hid ((allV D 4).length ≤ 300) := HAL.out 4
            go_wp2
            refine' wp_region_made (rels := relsOf ((.val _) :: (.rel (fun v W => Rg.IsSet W v (allV D 4))) :: (.val _) :: (.val _) :: (.val _) :: (.val _) :: (.val _) :: (.val _) :: (.val _) :: (.val _) :: (.val _) :: (.val _) :: (.val _) :: (.val _) :: [])) (w := wr) 98 (by kernel_rfl) (by kernel_rfl) (by rfl) (relsOf_stable ?std) ?wkd
            case std => exact stable_val (stable_rel Rg.IsSet.st (stable_val (stable_val (stable_val (stable_val (stable_val (stable_val (stable_val (stable_val (stable_val (stable_val (stable_val (stable_val (stable_nil))))))))))))))
            case wkd =>
              refine' walk_val (by rfl) ?ad0 (fun K hK => ?bd0); (case ad0 => (intro W hW hd; clear hd; go_simp; first | exact ⟨Ext.rf _, rfl⟩ | rfl)); (go_simp; refine hK _ ?_; clear hK K)
              refine' walk_rel (by rfl) ?ad1 (fun vd1 K hK => ?bd1); (case ad1 => (intro W hW hd; go_simp; (clear hd; exact makes_rel (hK W hW)))); (go_simp; refine hK _ ?_; clear hK K)
              refine' walk_val (by rfl) ?ad2 (fun K hK => ?bd2); (case ad2 => (intro W hW hd; clear hd; go_simp; first | exact ⟨Ext.rf _, rfl⟩ | rfl)); (go_simp; refine hK _ ?_; clear hK K)
              refine' walk_val (by rfl) ?ad3 (fun K hK => ?bd3); (case ad3 => (intro W hW hd; go_simp; (have hm := dep_rel hd ⟨1, .data⟩ 86 vd1 (by simp) (by rfl) (by rfl) (by rfl) (by rfl); clear hd; exact makes_val (same_is hm (own_set (own_st HOA.out hW) (allV_facts HG.out 4).1) (by have := hA.out; omega))))); (go_simp; refine hK _ ?_; clear hK K)
              refine' walk_val (by rfl) ?ad4 (fun K hK => ?bd4); (case ad4 => (intro W hW hd; clear hd; go_simp; first | exact ⟨Ext.rf _, rfl⟩ | rfl)); (go_simp; refine hK _ ?_; clear hK K)
              refine' walk_val (by rfl) ?ad5 (fun K hK => ?bd5); (case ad5 => (intro W hW hd; clear hd; go_simp; first | exact ⟨Ext.rf _, rfl⟩ | rfl)); (go_simp; refine hK _ ?_; clear hK K)
              refine' walk_val (by rfl) ?ad6 (fun K hK => ?bd6); (case ad6 => (intro W hW hd; go_simp; (clear hd; exact makes_val (hN W hW)))); (go_simp; refine hK _ ?_; clear hK K)
              refine' walk_val (by rfl) ?ad7 (fun K hK => ?bd7); (case ad7 => (intro W hW hd; clear hd; go_simp; first | exact ⟨Ext.rf _, rfl⟩ | rfl)); (go_simp; refine hK _ ?_; clear hK K)
              refine' walk_val (by rfl) ?ad8 (fun K hK => ?bd8); (case ad8 => (intro W hW hd; clear hd; go_simp; first | exact ⟨Ext.rf _, rfl⟩ | rfl)); (go_simp; refine hK _ ?_; clear hK K)
              refine' walk_val (by rfl) ?ad9 (fun K hK => ?bd9); (case ad9 => (intro W hW hd; clear hd; go_simp; first | exact ⟨Ext.rf _, rfl⟩ | rfl)); (go_simp; refine hK _ ?_; clear hK K)
              refine' walk_val (by rfl) ?ad10 (fun K hK => ?bd10); (case ad10 => (intro W hW hd; clear hd; go_simp; first | exact ⟨Ext.rf _, rfl⟩ | rfl)); (go_simp; refine hK _ ?_; clear hK K)
              refine' walk_val (by rfl) ?ad11 (fun K hK => ?bd11); (case ad11 => (intro W hW hd; go_simp; (clear hd; exact makes_val (Rg.alive_any W)))); (go_simp; refine hK _ ?_; clear hK K)
              refine' walk_val (by rfl) ?ad12 (fun K hK => ?bd12); (case ad12 => (intro W hW hd; clear hd; go_simp; first | exact ⟨Ext.rf _, rfl⟩ | rfl)); (go_simp; refine hK _ ?_; clear hK K)
              refine' walk_val (by rfl) ?ad13 (fun K hK => ?bd13); (case ad13 => (intro W hW hd; clear hd; go_simp; first | exact ⟨Ext.rf _, rfl⟩ | rfl)); (go_simp; refine hK _ ?_; clear hK K)
              refine walk_end (fun W hW hfin => ?_)
              clear hfin k2 hK hN
              go_simp
              go_wp2
              go_ret
              exact ⟨rfl, Ext.tr EWi.out hW⟩
end Go.Proofs.YthbjhpfgfpkppaaDoor
