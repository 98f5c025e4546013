/-
  New, Len, All of a map; the runs that All tells, by two functions; the reference's Same.
-/
import Derived.Test.YthbjhpfgfpkppaaDoorIP
namespace Go.Proofs.YthbjhpfgfpkppaaDoor
open Go Go.RowKit

set_option maxHeartbeats 1000000 in
theorem new_any (w : World) : Calls Tryd.prog 5 #[] w fun e w' => e = .returned (.pointer (some ⟨w.heap.size, 0, none⟩)) ∧ w' = w.alloc (.cells #[.slice none 0 0] 48) := by
  go_enter Tryd.func5, Tryd.ntmps5
  go_wp2
  go_ret
  exact ⟨rfl, rfl⟩
theorem new_map (w : World) : MapAt (w.alloc (.cells #[.slice none 0 0] 48)) w.heap.size w.heap.size none 0 0 [] := ⟨Box.new w _ _, World.ownsRow_nil _ _ _ _, fun k hk => by simp [Value.ownBlock] at hk⟩
set_option maxHeartbeats 1000000 in
theorem len_map (M : Value) (A : Option Addr) (n c : Nat) (w : World) (hM : Lists M w A n c) :
    Calls Tryd.prog 15 #[M] w fun e w' => e = .returned (.int .i64 n) ∧ w' = w := by
  have HL := Lib.hid (hM w (Ext.rf w))
  go_enter Tryd.func15, Tryd.ntmps15
  go_wp2_with (go_at_call 31; refine (Hid.out HL).mono ?_; rintro e w1 ⟨rfl, rfl⟩)
  go_ret
  exact ⟨rfl, rfl⟩
theorem RnAt.news {w : World} {B : Nat} {a : Addr} {l : List Rn} (h : RnAt w B (some a) l) : ∀ j u, (flatR l)[j]? = some u → w.cell? (a.add j) = some u := fun j u hj => by
  have hjl : j < l.length * 3 := by rw [← flatR_len]; exact (List.getElem?_eq_some_iff.1 hj).1
  obtain ⟨b, off, e, hb, hc⟩ := h (by omega)
  obtain rfl := Option.some.inj e
  obtain ⟨c0, c1, c2⟩ := hc (j / 3) (by omega)
  obtain ⟨d0, d1, d2⟩ := flatR_get l (j / 3) (by omega)
  rw [Addr.add_lit]
  rcases (by omega : j % 3 = 0 ∨ j % 3 = 1 ∨ j % 3 = 2) with h0 | h0 | h0
  · rw [show j = j / 3 * 3 by omega] at hj ⊢
    rw [c0, ← d0]; exact hj
  · rw [show j = j / 3 * 3 + 1 by omega] at hj ⊢
    rw [← Nat.add_assoc, c1, ← d1]; exact hj
  · rw [show j = j / 3 * 3 + 2 by omega] at hj ⊢
    rw [← Nat.add_assoc, c2, ← d2]; exact hj
theorem OwnR.nil_at (w : World) (base : Nat) (hb : base ≤ w.heap.size) : OwnR (w.alloc (.cells #[] 61)) base (.slice (some ⟨w.heap.size, 0, none⟩) 0 0) [] :=
  World.ownsRow_made w #[] 0 hb (Nat.zero_le _) (by simp)

set_option maxHeartbeats 1000000 in
theorem through_any (A : Option Addr) (n c : Nat) (w : World) :
    Calls Tryd.prog 30 #[.slice A n c] w fun e w' => e = .returned (.func (.func 50) #[] #[.pointer (some ⟨w.heap.size, 0, none⟩)]) ∧ w' = w.alloc (.cells #[.slice A n c] 46) := by
  have hmf : ∀ (fn : Fn) (first cap : Array Value) (w : World), (Instr.makeFunc fn first cap).run Tryd.prog w = .ok (.func fn first cap) w := fun _ _ _ _ => rfl
  go_enter Tryd.func30, Tryd.ntmps30
  go_wp2
  go_ret
  exact ⟨rfl, rfl⟩
end Go.Proofs.YthbjhpfgfpkppaaDoor
