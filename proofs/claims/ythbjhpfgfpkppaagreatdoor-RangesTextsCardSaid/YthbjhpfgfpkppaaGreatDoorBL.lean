/-
  A start that meets the condition on the listed variables; a slice of spans that came in, opened.
-/
import Derived.Test.YthbjhpfgfpkppaaGreatDoorBW
import Derived.Deep.Slices
import Derived.Deep.Fields
import Derived.Lay
namespace Go.Proofs.YthbjhpfgfpkppaaGreatDoor
open Go Go.ChangeShapes Go.WideShapes Go.ChangeAt Go.WideMaps Go.WideElems Go.RowKit

theorem start_shaped (os : Os) (args : Array Value) : ((World.laidAll Tryz.prog os Rows.rangesTextsRow.laid).forCall (fun _ _ => 0) ⟨#[], args, []⟩).Shaped Tryz.prog :=
  World.shaped_of_ZipB (by kernel_rfl) (by kernel_rfl)
theorem start_met (os : Os) (args : Array Value) : laidMetH Tryz.prog Rows.rangesTextsRow.laid ((World.laidAll Tryz.prog os Rows.rangesTextsRow.laid).forCall (fun _ _ => 0) ⟨#[], args, []⟩).memory := by
  rw [MakeChecks.laidMetH_plain _ _ _ (by kernel_rfl)]
  exact laidMet_laidAll _ (by kernel_rfl) (by kernel_rfl)
set_option maxRecDepth 100000 in
theorem open_spans {H : Type} {enc : TypeId × Value → H} {W : World} {b0 base : Nat} {sp : Nat → Bool} {held : Bool} {v : Value} {d : DataW H} {p : List MemPlace}
    (hv : Value.okWide Tryz.prog W .any b0 22 v) (h : DataW.Trod enc Tryz.prog W base sp held 22 v d p) :
    ∃ (A : Option Addr) (n c : Nat) (l : List Sp), v = .slice A n c ∧ l.length = n ∧ n ≤ maxLen ∧ SpAt W W.heap.size A l := by
  obtain ⟨a, n, c, rfl⟩ := okWide_slice Tryz.underlying22 hv
  obtain ⟨fuel, hf⟩ := h
  rcases Deep.open_slice Tryz.underlying22 hf with ⟨h0, _⟩ | ⟨ad, len, cap, m, n', D, Pl, hcs, hb, hl, hm, hmm, hx, hi⟩
  · have e : Value.slice a n c = .slice none 0 0 := by simpa [Value.cells] using h0
    injection e with e1 e2 e3
    subst e1; subst e2
    exact ⟨none, 0, c, [], rfl, rfl, Nat.zero_le _, fun h => absurd h (by simp)⟩
  · have e : Value.slice a n c = .slice (some ad) len cap := by simpa [Value.cells] using hcs
    injection e with e1 e2 e3
    subst e1; subst e2; subst e3
    have hlm : n ≤ m := by rw [hmm]; split <;> omega
    have hex : ∀ i, i < n → ∃ q : Sp, W.cell? (ad.add (i * 2)) = some (.int .i64 q.1) ∧ W.cell? ((ad.add (i * 2)).add 1) = some (.int .i64 q.2) := fun i hin => by
      obtain ⟨cs', hc, ht⟩ := hi i (by omega)
      rw [cellsSpan] at hc
      obtain ⟨ys, k, _, _, hcl, hyl, hg⟩ := DataW.trod_struct Tryz.underlying41 ht
      obtain ⟨_, _, hat⟩ := World.cells?_some hc
      rw [cellsSpan] at hcl
      match cs', hcl, hyl, hat, hg with
      | [u, v], _, hyl, hat, hg =>
        have hone : Tryz.prog.cellsOf 2 = 1 := by kernel_rfl
        have h0 := hg 0 { name := "From", type := 2, offset := 0, embedded := false, tag := "", pkgPath := "", byteOffset := 0 } rfl
        have h1 := hg 1 { name := "To", type := 2, offset := 1, embedded := false, tag := "", pkgPath := "", byteOffset := 8 } rfl
        dsimp only at h0 h1
        rw [hone] at h0 h1
        have hys : ys.length = 2 := hyl
        rw [List.getElem?_eq_getElem (by omega)] at h0 h1
        obtain ⟨k0, e0, _, _⟩ := DataW.trod_int Tryz.underlying2 h0
        obtain ⟨k1, e1, _, _⟩ := DataW.trod_int Tryz.underlying2 h1
        have e0' : u = .int .i64 k0 := by simpa using e0
        have e1' : v = .int .i64 k1 := by simpa using e1
        subst e0'; subst e1'
        have a0 := hat 0 (by simp)
        have a1 := hat 1 (by simp)
        exact ⟨(k0, k1), by simpa [Addr.add] using a0, by simpa using a1⟩
    obtain ⟨f, hfs⟩ : ∃ f : Nat → Sp, ∀ i, i < n → W.cell? (ad.add (i * 2)) = some (.int .i64 (f i).1) ∧ W.cell? ((ad.add (i * 2)).add 1) = some (.int .i64 (f i).2) :=
      ⟨fun i => if h : i < n then Classical.choose (hex i h) else (0, 0), fun i h => by simp only [h, dif_pos]; exact Classical.choose_spec (hex i h)⟩
    refine ⟨some ad, n, c, (List.range n).map f, rfl, by simp, by omega, fun hpos => ?_⟩
    have hn0 : 0 < n := by simpa using hpos
    obtain ⟨b, o, spot⟩ := ad
    have hspot : spot = Option.none := by simpa [Addr.add] using World.cell?_spot (hfs 0 hn0).1
    subst hspot
    have hlt : b < W.heap.size := World.block_lt_of_cell? W ⟨b, o, Option.none⟩ (by have := (hfs 0 hn0).1; simpa [Addr.add] using this)
    refine ⟨b, o, rfl, hlt, fun j hj => ?_⟩
    have hj' : j < n := by simpa using hj
    obtain ⟨h1, h2⟩ := hfs j hj'
    rw [Addr.add_lit] at h1 h2
    rw [Addr.add_lit] at h2
    simpa using ⟨h1, h2⟩
end Go.Proofs.YthbjhpfgfpkppaaGreatDoor
