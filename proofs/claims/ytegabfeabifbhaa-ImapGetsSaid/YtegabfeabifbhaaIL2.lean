/-
  An argument that is a slice of numbers, opened.
-/
import Derived.Test.YtegabfeabifbhaaIL
import Derived.Test.YtegabfeabifbhaaK1
namespace Go.Proofs.Ytegabfeabifbhaa
open Go Go.ChangeShapes Go.WideShapes Go.ChangeAt Go.WideMaps Go.WideElems Go.RowKit

theorem cellsI64 : Try.prog.cellsOf 2 = 1 := by kernel_rfl
set_option maxRecDepth 100000 in
/-- a slice of numbers that came in, opened -/
theorem open_ints {H : Type} {enc : TypeId × Value → H} {W : World} {b0 base : Nat} {sp : Nat → Bool} {held : Bool} {v : Value} {d : DataW H} {p : List MemPlace}
    (hv : Value.okWide Try.prog W .any b0 33 v) (h : DataW.Trod enc Try.prog W base sp held 33 v d p) :
    ∃ (A : Option Addr) (n c : Nat) (l : List Int), v = .slice A n c ∧ l.length = n ∧ n ≤ maxLen ∧ InAt W W.heap.size A l := by
  obtain ⟨a, n, c, rfl⟩ := okWide_slice Try.underlying33 hv
  obtain ⟨fuel, hf⟩ := h
  rcases Deep.open_slice Try.underlying33 hf with ⟨h0, _⟩ | ⟨ad, len, cap, m, n', D, Pl, hcs, hb, hl, hm, hmm, hx, hi⟩
  · have e : Value.slice a n c = .slice none 0 0 := by simpa [Value.cells] using h0
    injection e with e1 e2 e3
    subst e1; subst e2
    exact ⟨none, 0, c, [], rfl, rfl, Nat.zero_le _, fun h => absurd h (by simp)⟩
  · have e : Value.slice a n c = .slice (some ad) len cap := by simpa [Value.cells] using hcs
    injection e with e1 e2 e3
    subst e1; subst e2; subst e3
    have hlm : n ≤ m := by rw [hmm]; split <;> omega
    have hex : ∀ i, i < n → ∃ q : Int, W.cell? (ad.add i) = some (.int .i64 q) := fun i hin => by
      obtain ⟨cs', hc, ht⟩ := hi i (by omega)
      rw [cellsI64] at hc
      obtain ⟨k0, e0, _, _⟩ := DataW.trod_int Try.underlying2 ht
      subst e0
      obtain ⟨_, _, hat⟩ := World.cells?_some hc
      have a0 := hat 0 (by simp)
      exact ⟨k0, by simpa [Addr.add] using a0⟩
    obtain ⟨f, hfs⟩ : ∃ f : Nat → Int, ∀ i, i < n → W.cell? (ad.add i) = some (.int .i64 (f i)) :=
      ⟨fun i => if h : i < n then Classical.choose (hex i h) else 0, fun i h => by simp only [h, dif_pos]; exact Classical.choose_spec (hex i h)⟩
    refine ⟨some ad, n, c, (List.range n).map f, rfl, by simp, by omega, fun hpos => ?_⟩
    have hn0 : 0 < n := by simpa using hpos
    obtain ⟨b, o, spot⟩ := ad
    have hspot : spot = Option.none := by simpa [Addr.add] using World.cell?_spot (hfs 0 hn0)
    subst hspot
    have hlt : b < W.heap.size := World.block_lt_of_cell? W ⟨b, o, Option.none⟩ (by have := hfs 0 hn0; simpa [Addr.add] using this)
    refine ⟨b, o, rfl, hlt, fun j hj => ?_⟩
    have hj' : j < n := by simpa using hj
    have h1 := hfs j hj'
    rw [Addr.add_lit] at h1
    simpa using h1
end Go.Proofs.Ytegabfeabifbhaa
