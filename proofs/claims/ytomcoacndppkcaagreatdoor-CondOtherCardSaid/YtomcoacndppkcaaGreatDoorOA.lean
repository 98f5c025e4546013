/-
  Fields of other names: append of any fields, which names have a condition's length, what is left the same.
-/
import Derived.Test.YtomcoacndppkcaaGreatDoorWG
import Derived.Test.YtomcoacndppkcaaGreatDoorWH
import Derived.Test.YtomcoacndppkcaaGreatDoorYL
import Derived.Test.YtomcoacndppkcaaGreatDoorUD
import Derived.Deep.DeepAppendWide
namespace Go.Proofs.YtomcoacndppkcaaGreatDoor
open Go Go.RowKit
open T (Tg TgAt IsTg)
open F (FdAt OwnF flat flat_len flat_get0 flat_get1 flat_append)

theorem bytesFd : Tryz.prog.bytesOf 40 = 32 := by kernel_rfl
/-- a slice of fields that came in: its capacity, and how great it may be -/
theorem fields_more {H : Type} {enc : TypeId × Value → H} {W : World} {base : Nat} {sp : Nat → Bool} {held : Bool} {A : Option Addr} {n c : Nat} {d : DataW H} {p : List MemPlace}
    (h : DataW.Trod enc Tryz.prog W base sp held 22 (.slice A n c) d p) (hz : ∀ n ∈ d.weights Tryz.prog 22, n ≤ T.szM) : n ≤ c ∧ n * 32 ≤ T.szM := by
  obtain ⟨fuel, hf⟩ := h
  rcases Deep.open_slice Tryz.underlying22 hf with ⟨h0, _⟩ | ⟨ad, len, cap, m, n', D, Pl, hcs, hb, hl, hm, hmm, hx, hi⟩
  · have e : Value.slice A n c = .slice none 0 0 := by simpa [Value.cells] using h0
    injection e with e1 e2 e3
    subst e2; subst e3
    exact ⟨Nat.le_refl _, by omega⟩
  · have e : Value.slice A n c = .slice (some ad) len cap := by simpa [Value.cells] using hcs
    injection e with e1 e2 e3
    subst e1; subst e2; subst e3
    have hd : d = .slice ((List.range n).map D) ((List.range (m - n)).map fun j => D (n + j)) := congrArg Prod.fst hx
    refine ⟨hl, ?_⟩
    have := hz ((n + (m - n)) * 32) (by
      rw [hd]
      simp only [DataW.weights, Tryz.underlying22, bytesFd, List.length_map, List.length_range]
      exact List.mem_cons_self)
    have h2 : n * 32 ≤ (n + (m - n)) * 32 := Nat.mul_le_mul_right _ (by omega)
    omega
theorem own_one {w : World} {base : Nat} (s t : ByteArray) (N : Nat) (hN : w.heap.size = N) (hb : base ≤ w.heap.size) : OwnF (w.alloc (.cells #[.string s, .string t] 40)) base (.slice (some ⟨N, 0, none⟩) 1 1) [(s, t)] := by
  subst hN
  refine ⟨rfl, .inr ⟨w.heap.size, 1, #[.string s, .string t], rfl, hb, heap_alloc_new w _, Nat.le_refl _, by unfold maxLen; omega, rfl, rfl⟩⟩

/-- append(v, m...): however many -/
theorem app_fdsW (w : World) {ops : Array Oper} {rest : List Oper} {o : Oper} {a : Act} {Q : Exit → Act → World → Prop} (hgd : o.guard = none) (s x : Operand)
    (ho : o.op = .call { callee := .builtin .append, args := #[s, x], argTypes := #[22, 22] })
    (base : Nat) (v : Value) (l m : List F.Fd) (hs : a.eval s = v) (hown : OwnF w base v l) (B : Nat) (A : Option Addr) (c : Nat) (hx : a.eval x = .slice A m.length c) (hr : FdAt w B A m)
    (hlen : ((l.length + m.length) + (l.length + m.length) / 4 + 192) * 32 ≤ 281474976710656) (hbase : base ≤ w.heap.size)
    (h : ∀ v' w', OwnF w' base v' (l ++ m) → w.grownBy w' v.ownBlock → wpList Tryz.prog ops Q rest (a.put o.dst v') w') : wpList Tryz.prog ops Q (o :: rest) a w := by
  obtain ⟨i0, hi, hz0, hz1, hz2⟩ := info_parts F.infoFd
  cases A with
  | none =>
    have hm : m = [] := by
      rcases Nat.eq_zero_or_pos m.length with h0 | h0
      · exact List.eq_nil_of_length_eq_zero h0
      · obtain ⟨_, _, e, _⟩ := hr h0; cases e
    subst hm
    refine wpList_plain hgd fun K hK => ?_
    have hrun := F.append_none_run w (t := 22) (ty := o.type) Tryz.underlying22 hi v l.length (flat l) hown c
    unfold Oper.wp
    simp [execOp, ho, resolve, invoke, builtin, hs, hx, hrun, Result.andThen]
    exact hK _ _ (h v w (by simpa using hown) (World.grownBy.refl w _))
  | some ad =>
    refine wpList_append_own_wide w hgd s x 22 ho base 40 i0 (.agg #[.string ⟨#[]⟩, .string ⟨#[]⟩]) 2 32 Tryz.underlying22 hi hz0 hz1 hz2 rfl (by omega) v l.length (flat l) hs hown ad m.length c (flat m) hx (flat_len m) ?_ ?_ (by unfold maxLen; omega) hlen hbase ?_
    · intro j u hj
      have hjl : j < m.length * 2 := by rw [← flat_len]; exact (List.getElem?_eq_some_iff.1 hj).1
      obtain ⟨b, off, e, hb, hc⟩ := hr (by omega)
      obtain rfl := Option.some.inj e
      obtain ⟨c0, c1⟩ := hc (j / 2) (by omega)
      rw [Addr.add_lit]
      rcases Nat.mod_two_eq_zero_or_one j with h0 | h0
      · have e : j / 2 * 2 = j := by omega
        rw [e] at c0
        have := flat_get0 m (j / 2) (by omega)
        rw [e, hj] at this
        rw [c0, ← this]
      · have e : j / 2 * 2 + 1 = j := by omega
        have := flat_get1 m (j / 2) (by omega)
        rw [e, hj] at this
        rw [Nat.add_assoc, e] at c1
        rw [c1, ← this]
    · intro u hu
      obtain ⟨p, _, hp⟩ := List.mem_flatMap.1 hu
      simp at hp
      rcases hp with rfl | rfl <;> rfl
    · intro v' w' h1 h2 _
      exact h v' w' (by unfold OwnF; rw [flat_append, List.length_append]; exact h1) h2

/-- has a name the length of a condition's? -/
def nmD (k : Nat) : Bool := decide (k = 8) || decide (k = 19) || decide (k = 13) || decide (k = 17)
theorem nmD_no {k : Nat} (h : nmD k = false) : k ≠ 8 ∧ k ≠ 19 ∧ k ≠ 13 ∧ k ≠ 17 := by
  unfold nmD at h; simp at h; omega
set_option maxHeartbeats 4000000 in
set_option maxRecDepth 20000 in
theorem named_any (s : ByteArray) (w : World) (_hs : s.size ≤ F.szM) :
    Calls Tryz.prog 16 #[.string s] w fun e w' => e = .returned (.bool (nmD s.size)) ∧ Below w.heap.size w w' := by
  have HF : Hid (nmD s.size = (decide (s.size = 8) || decide (s.size = 19) || decide (s.size = 13) || decide (s.size = 17))) := rfl
  generalize nmD s.size = R at *
  generalize hz : s.size = z at *
  go_enter Tryz.func16, Tryz.ntmps16
  go_wp2
  go_loopw [7] (fun i wr => ∃ k : Nat, k ≤ 5 ∧ i = .int .i64 k ∧ (1 ≤ k → z ≠ 8) ∧ (2 ≤ k → z ≠ 19) ∧ (3 ≤ k → z ≠ 13) ∧ (4 ≤ k → z ≠ 17) ∧ wr = w.alloc (.cells #[.string nmM, .string nmU, .string nmN, .string nmS, .string nmR] 9)) (fun i _ => 5 - (intOf i).toNat)
  case atStart => exact ⟨0, by omega, rfl, by omega, by omega, by omega, by omega, rfl⟩
  case round =>
    obtain ⟨k, hk, rfl, h1, h2, h3, h4, rfl⟩ := hrel
    have B1 : Below w.heap.size w (w.alloc (.cells #[.string nmM, .string nmU, .string nmN, .string nmS, .string nmR] 9)) := (Below.refl _ _).alloc (Nat.le_refl _) _
    have hk' : k = 0 ∨ k = 1 ∨ k = 2 ∨ k = 3 ∨ k = 4 ∨ k = 5 := by omega
    rcases hk' with rfl | rfl | rfl | rfl | rfl | rfl
    · by_cases hx : z = 8
      · have hR : R = true := by have := HF; unfold Hid at this; rw [this]; subst hx; rfl
        have q : (z == 8) = true := by subst hx; rfl
        go_wp2
        go_ret
        exact ⟨by subst hR; rfl, B1⟩
      · have q : (z == 8) = false := by simpa using hx
        go_wp2
        go_roundw
        exact ⟨1, by omega, rfl, by omega, by omega, by omega, by omega, trivial⟩
        case measure => decide
    · by_cases hx : z = 19
      · have hR : R = true := by have := HF; unfold Hid at this; rw [this]; subst hx; rfl
        have q : (z == 19) = true := by subst hx; rfl
        go_wp2
        go_ret
        exact ⟨by subst hR; rfl, B1⟩
      · have q : (z == 19) = false := by simpa using hx
        go_wp2
        go_roundw
        exact ⟨2, by omega, rfl, by omega, by omega, by omega, by omega, trivial⟩
        case measure => decide
    · by_cases hx : z = 13
      · have hR : R = true := by have := HF; unfold Hid at this; rw [this]; subst hx; rfl
        have q : (z == 13) = true := by subst hx; rfl
        go_wp2
        go_ret
        exact ⟨by subst hR; rfl, B1⟩
      · have q : (z == 13) = false := by simpa using hx
        go_wp2
        go_roundw
        exact ⟨3, by omega, rfl, by omega, by omega, by omega, by omega, trivial⟩
        case measure => decide
    · by_cases hx : z = 17
      · have hR : R = true := by have := HF; unfold Hid at this; rw [this]; subst hx; rfl
        have q : (z == 17) = true := by subst hx; rfl
        go_wp2
        go_ret
        exact ⟨by subst hR; rfl, B1⟩
      · have q : (z == 17) = false := by simpa using hx
        go_wp2
        go_roundw
        exact ⟨4, by omega, rfl, by omega, by omega, by omega, by omega, trivial⟩
        case measure => decide
    · by_cases hx : z = 8
      · exact absurd hx (h1 (by omega))
      · have q : (z == 8) = false := by simpa using hx
        go_wp2
        go_roundw
        exact ⟨5, by omega, rfl, by omega, by omega, by omega, by omega, trivial⟩
        case measure => decide
    · have hR : R = false := by
        have hF := HF; unfold Hid at hF; rw [hF]
        have := h1 (by omega); have := h2 (by omega); have := h3 (by omega); have := h4 (by omega)
        simp [*]
      go_wp2
      go_ret
      exact ⟨by subst hR; rfl, B1⟩

/-- append(v, m...) in a region that draws its order -/
theorem step_fds (w : World) {ops : Array Oper} {o : Oper} {a : Act} {K : Act → World → Prop} {Q : Exit → Act → World → Prop} {E : Prop} (hgd : o.guard = none) (s x : Operand)
    (ho : o.op = .call { callee := .builtin .append, args := #[s, x], argTypes := #[22, 22] })
    (base : Nat) (v : Value) (l m : List F.Fd) (hs : a.eval s = v) (hown : OwnF w base v l) (B : Nat) (A : Option Addr) (n c : Nat) (hx : a.eval x = .slice A n c) (hn : m.length = n) (hr : FdAt w B A m)
    (hlen : l.length + m.length ≤ 8000000) (hbase : base ≤ w.heap.size)
    (h : ∀ v' w', OwnF w' base v' (l ++ m) → w.grownBy w' v.ownBlock → K (a.put o.dst v') w') :
    if Region.wanted o (yielded ops a.tmps) = true then Oper.wp Tryz.prog o a w K Q else E := by
  subst hn
  have hw : Region.wanted o (yielded ops a.tmps) = true := by simp [Region.wanted, hgd]
  rw [if_pos hw]
  obtain ⟨i0, hi, hz0, hz1, hz2⟩ := info_parts F.infoFd
  cases A with
  | none =>
    have hm : m = [] := by
      rcases Nat.eq_zero_or_pos m.length with h0 | h0
      · exact List.eq_nil_of_length_eq_zero h0
      · obtain ⟨_, _, e, _⟩ := hr h0; cases e
    subst hm
    have hrun := F.append_none_run w (t := 22) (ty := o.type) Tryz.underlying22 hi v l.length (flat l) hown c
    unfold Oper.wp
    simp [execOp, ho, resolve, invoke, builtin, hs, hx, hrun, Result.andThen]
    exact h v w (by simpa using hown) (World.grownBy.refl w _)
  | some ad =>
    obtain ⟨v', w', hrn, h2, h3, _, _⟩ := run_append_own_at (P := Tryz.prog) w base 22 o.type 40 i0 (.agg #[.string ⟨#[]⟩, .string ⟨#[]⟩]) 2 32 Tryz.underlying22 hi hz0 hz1 hz2 rfl (by omega) v l.length (flat l) hown ad m.length c (flat m) (flat_len m) (by
      intro j u hj
      have hjl : j < m.length * 2 := by rw [← flat_len]; exact (List.getElem?_eq_some_iff.1 hj).1
      obtain ⟨b, off, e, hb, hc⟩ := hr (by omega)
      obtain rfl := Option.some.inj e
      obtain ⟨c0, c1⟩ := hc (j / 2) (by omega)
      rw [Addr.add_lit]
      rcases Nat.mod_two_eq_zero_or_one j with h0 | h0
      · have e : j / 2 * 2 = j := by omega
        rw [e] at c0
        have := flat_get0 m (j / 2) (by omega)
        rw [e, hj] at this
        rw [c0, ← this]
      · have e : j / 2 * 2 + 1 = j := by omega
        have := flat_get1 m (j / 2) (by omega)
        rw [e, hj] at this
        rw [Nat.add_assoc, e] at c1
        rw [c1, ← this]) (by
      intro u hu
      obtain ⟨p, _, hp⟩ := List.mem_flatMap.1 hu
      simp at hp
      rcases hp with rfl | rfl <;> rfl) (by unfold maxLen; omega) (by omega) hbase
    unfold Oper.wp execOp
    simp only [ho, resolve, invoke, builtin, Sem.run_bind, Sem.run_pure, Result.andThen_ok, List.map_toArray, List.map_cons, List.map_nil, hs, hx, hrn]
    exact h v' w' (by unfold OwnF; rw [flat_append, List.length_append]; exact h2) h3

/-- a part of a slice of fields -/
theorem fd_take {w : World} {B : Nat} {A : Option Addr} {l : List F.Fd} {k : Nat} (h : FdAt w B A l) : FdAt w B A (l.take k) := by
  intro h0
  rw [List.length_take] at h0
  obtain ⟨b, o, e, hb, hc⟩ := h (by omega)
  refine ⟨b, o, e, hb, fun j hj => ?_⟩
  rw [List.length_take] at hj
  rw [List.getElem_take]
  exact hc j (by omega)
theorem fd_drop {w : World} {B : Nat} {A : Option Addr} {l : List F.Fd} {k : Nat} (h : FdAt w B A l) : FdAt w B (A.map (·.add (k * 2))) (l.drop k) := by
  intro h0
  rw [List.length_drop] at h0
  obtain ⟨b, o, rfl, hb, hc⟩ := h (by omega)
  refine ⟨b, o + k * 2, by simp [Addr.add_lit], hb, fun j hj => ?_⟩
  rw [List.length_drop] at hj
  rw [List.getElem_drop]
  have := hc (k + j) (by omega)
  rw [show o + k * 2 + j * 2 = o + (k + j) * 2 by omega]
  exact this
theorem fd_add0 {w : World} {B : Nat} {A : Option Addr} {l : List F.Fd} (h : FdAt w B A l) : FdAt w B (A.map (·.add 0)) l := by
  intro h0
  obtain ⟨b, o, rfl, hb, hc⟩ := h h0
  exact ⟨b, o, by simp [Addr.add_lit], hb, hc⟩
/-- a field of another name, among others -/
theorem ofD_ins (l : List F.Fd) (k : Nat) (x y nm : ByteArray) (h : F.alikeD x nm = false) : F.ofD ((l.take k ++ [(x, y)]) ++ l.drop k) nm = F.ofD l nm := by
  unfold F.ofD
  rw [List.filter_append, List.filter_append]
  have e : List.filter (fun f : F.Fd => F.alikeD f.1 nm) [(x, y)] = [] := by simp [h]
  rw [e, List.append_nil, ← List.filter_append, List.take_append_drop]
theorem parD_ins (l : List F.Fd) (k : Nat) (x y : ByteArray) (h : nmD x.size = false) : parD ((l.take k ++ [(x, y)]) ++ l.drop k) = parD l := by
  obtain ⟨h1, h2, h3, h4⟩ := nmD_no h
  have a1 := ofD_ins l k x y nmM (F.alike_sizes h1)
  have a2 := ofD_ins l k x y nmU (F.alike_sizes h2)
  have a3 := ofD_ins l k x y nmN (F.alike_sizes h3)
  have a4 := ofD_ins l k x y nmS (F.alike_sizes h4)
  have a5 := ofD_ins l k x y nmR (F.alike_sizes h1)
  unfold parD
  rw [a1, a2, a3, a4, a5]
theorem gsum_ins (l : List F.Fd) (k : Nat) (x y : ByteArray) : F.gsum ((l.take k ++ [(x, y)]) ++ l.drop k) = F.gsum ([(x, y)] ++ l) := by
  rw [F.gsum_append, F.gsum_append, F.gsum_append]
  have := F.gsum_append (l.take k) (l.drop k)
  rw [List.take_append_drop] at this
  omega
end Go.Proofs.YtomcoacndppkcaaGreatDoor
