/-
  The library's tables of folds, as the statement's row lists them, read cell by cell.
-/
import Derived.Test.YtdmkfleiipfbgaaDoorPL
import Derived.Test.YtdmkfleiipfbgaaDoorFA
namespace Go.Proofs.YtdmkfleiipfbgaaDoor
open Go Go.ChangeShapes Go.WideShapes Go.ChangeAt Go.WideMaps Go.WideElems Go.RowKit

theorem gAF : Tryd.prog.globalNamed "unicode.asciiFold" = some 0 := by kernel_rfl
theorem gAFType : (Tryd.prog.globals[0]?).map (·.type) = some 108 := by kernel_rfl
theorem gCO : Tryd.prog.globalNamed "unicode.caseOrbit" = some 1 := by kernel_rfl
theorem gCOType : (Tryd.prog.globals[1]?).map (·.type) = some 109 := by kernel_rfl
theorem cellsAF : Tryd.prog.cellsOf 108 = 128 := by kernel_rfl
theorem cellsU16 : Tryd.prog.cellsOf 107 = 1 := by kernel_rfl
theorem cellsFP : Tryd.prog.cellsOf 111 = 2 := by kernel_rfl
def foldZ : List Int := [0, 1, 2, 3, 4, 5, 6, 7, 8, 9, 10, 11, 12, 13, 14, 15, 16, 17, 18, 19, 20, 21, 22, 23, 24, 25, 26, 27, 28, 29, 30, 31, 32, 33, 34, 35, 36, 37, 38, 39, 40, 41, 42, 43, 44, 45, 46, 47, 48, 49, 50, 51, 52, 53, 54, 55, 56, 57, 58, 59, 60, 61, 62, 63, 64, 97, 98, 99, 100, 101, 102, 103, 104, 105, 106, 107, 108, 109, 110, 111, 112, 113, 114, 115, 116, 117, 118, 119, 120, 121, 122, 91, 92, 93, 94, 95, 96, 65, 66, 67, 68, 69, 70, 71, 72, 73, 74, 8490, 76, 77, 78, 79, 80, 81, 82, 383, 84, 85, 86, 87, 88, 89, 90, 123, 124, 125, 126, 127]
theorem foldZ_data : (Rows.laid_unicode_asciiFold : DataW Unit) = Lib.tabData .u16 foldZ := by kernel_rfl
def pairD (x y : Int) : DataW Unit := .agg [.lit (.int .u16 x), .lit (.int .u16 y)]

set_option maxRecDepth 100000 in
/-- a pair of the table, read -/
theorem pair_cells {W : World} {base : Nat} {sp : Nat → Bool} {held : Bool} {fuel : Nat} {enc : TypeId × Value → Unit} {cs : List Value} {x y : Int} {pl : List MemPlace} {a : Addr} (hc : W.cells? base a 2 = some cs)
    (ht : DataW.trod enc Tryd.prog W base sp held fuel 111 cs = some (pairD x y, pl)) : W.cell? a = some (.int .u16 x) ∧ W.cell? (a.add 1) = some (.int .u16 y) := by
  obtain ⟨ys, k, _, hxx, hcl, hyl, hg⟩ := DataW.trod_struct Tryd.underlying111 ht
  obtain ⟨_, _, hat⟩ := World.cells?_some hc
  rw [cellsFP] at hcl
  match cs, hcl, hyl, hat, hg with
  | [u, v], _, hyl, hat, hg =>
    have h0 := hg 0 { name := "From", type := 107, offset := 0, embedded := false, tag := "", pkgPath := "", byteOffset := 0 } rfl
    have h1 := hg 1 { name := "To", type := 107, offset := 1, embedded := false, tag := "", pkgPath := "", byteOffset := 2 } rfl
    dsimp only at h0 h1
    rw [cellsU16] at h0 h1
    have hys : ys.length = 2 := hyl
    rw [List.getElem?_eq_getElem (by omega)] at h0 h1
    obtain ⟨k0, e0, d0, _⟩ := DataW.trod_int Tryd.underlying107 h0
    obtain ⟨k1, e1, d1, _⟩ := DataW.trod_int Tryd.underlying107 h1
    have e0' : u = .int .u16 k0 := by simpa using e0
    have e1' : v = .int .u16 k1 := by simpa using e1
    subst e0'; subst e1'
    have hl : ys.map (·.1) = [.lit (.int .u16 x), .lit (.int .u16 y)] := by
      have := (Prod.mk.inj hxx).1
      unfold pairD at this
      exact (DataW.agg.inj this).symm
    have g0 : (ys.map (·.1))[0]? = some (.lit (.int .u16 x)) := by rw [hl]; rfl
    have g1 : (ys.map (·.1))[1]? = some (.lit (.int .u16 y)) := by rw [hl]; rfl
    rw [List.getElem?_map, List.getElem?_eq_getElem (by omega), d0] at g0
    rw [List.getElem?_map, List.getElem?_eq_getElem (by omega), d1] at g1
    simp only [Option.map_some, Option.some.injEq, DataW.lit.injEq, Lit.int.injEq, true_and] at g0 g1
    subst g0; subst g1
    have a0 := hat 0 (by simp)
    have a1 := hat 1 (by simp)
    exact ⟨by simpa [Addr.add] using a0, by simpa using a1⟩

def orbZ : List (Int × Int) := [(75, 107), (83, 115), (107, 8490), (115, 383), (181, 924), (197, 229), (223, 7838), (229, 8491), (304, 304), (305, 305), (383, 83), (452, 453), (453, 454), (454, 452), (455, 456), (456, 457), (457, 455), (458, 459), (459, 460), (460, 458), (497, 498), (498, 499), (499, 497), (837, 921), (912, 8147), (914, 946), (917, 949), (920, 952), (921, 953), (922, 954), (924, 956), (928, 960), (929, 961), (931, 962), (934, 966), (937, 969), (944, 8163), (946, 976), (949, 1013), (952, 977), (953, 8126), (954, 1008), (956, 181), (960, 982), (961, 1009), (962, 963), (963, 931), (966, 981), (969, 8486), (976, 914), (977, 1012), (981, 934), (982, 928), (1008, 922), (1009, 929), (1012, 920), (1013, 917), (1042, 1074), (1044, 1076), (1054, 1086), (1057, 1089), (1058, 1090), (1066, 1098), (1074, 7296), (1076, 7297), (1086, 7298), (1089, 7299), (1090, 7300), (1098, 7302), (1122, 1123), (1123, 7303), (7296, 1042), (7297, 1044), (7298, 1054), (7299, 1057), (7300, 7301), (7301, 1058), (7302, 1066), (7303, 1122), (7304, 42570), (7776, 7777), (7777, 7835), (7835, 7776), (7838, 223), (8126, 837), (8147, 912), (8163, 944), (8486, 937), (8490, 75), (8491, 197), (42570, 42571), (42571, 7304), (64261, 64262), (64262, 64261)]
theorem orbZ_data : (Rows.laid_unicode_caseOrbit : DataW Unit) = .slice (orbZ.map fun x => pairD x.1 x.2) [] := by kernel_rfl

set_option maxRecDepth 100000 in
theorem of_laid_f {W : World} (h : laidMetH Tryd.prog Rows.specParsesRow.laid W) : FT W := by
  rw [MakeChecks.laidMetH_plain _ _ _ (by kernel_rfl)] at h
  have h1 := laidMet.tail h
  have h2 := laidMet.tail h1
  have ht : Lib.TabIs Tryd.prog W "unicode.asciiFold" .u16 foldZ := Lib.tabIs_of_head (zs := foldZ) gAF gAFType Tryd.underlying108 Tryd.underlying107 cellsU16 cellsAF h1
  have hlen : foldZ.length = 128 := by decide +kernel
  have hat : ∀ i (hi : i < 128), W.cell? ⟨0, i, Option.none⟩ = some (.int .u16 (foldZ.getD i 0)) := fun i hi => ht.cell gAF i (by omega)
  refine ⟨hat 98 (by decide), hat 66 (by decide), hat 121 (by decide), hat 89 (by decide), hat 116 (by decide), hat 84 (by decide), hat 101 (by decide), hat 69 (by decide), hat 115 (by decide), hat 83 (by decide), ?_⟩
  obtain ⟨ps, ⟨g', t', cs, fuel, p, q, hg', ht', hvar, hd, _, _⟩, _⟩ := h2
  obtain rfl := Option.some.inj (gCO.symm.trans hg')
  obtain rfl := Option.some.inj (gCOType.symm.trans ht')
  rcases Deep.open_slice Tryd.underlying109 hd with ⟨_, hx⟩ | ⟨a, len, cap, m, n, D, Pl, hcs, hb, hl, hm, hmm, hx, hi⟩
  · have h3 := (Prod.mk.inj hx).1
    rw [orbZ_data] at h3
    cases h3
  · have h3 := (Prod.mk.inj hx).1
    rw [orbZ_data] at h3
    have h4 := (DataW.slice.inj h3).1
    have hlen2 : len = 94 := by
      have h5 := congrArg List.length h4
      rw [List.length_map, List.length_map, List.length_range] at h5
      rw [← h5]; decide +kernel
    subst hlen2
    have hlm : 94 ≤ m := by rw [hmm]; split <;> omega
    have hD : ∀ i x y, i < 94 → orbZ[i]? = some (x, y) → W.cell? (a.add (i * 2)) = some (.int .u16 x) ∧ W.cell? ((a.add (i * 2)).add 1) = some (.int .u16 y) := fun i x y h94 hz => by
      obtain ⟨cs', hc, htr⟩ := hi i (by omega)
      rw [cellsFP] at hc
      have e : D i = pairD x y := by
        have h6 := congrArg (fun l => l[i]?) h4
        simp only [List.getElem?_map, hz, List.getElem?_range h94, Option.map_some, Option.some.injEq] at h6
        exact h6.symm
      rw [e] at htr
      exact pair_cells hc htr
    have hv : W.cell? ⟨1, 0, Option.none⟩ = some (.slice (some a) 94 cap) := by
      rw [World.var?_cell gCO hvar 0]
      have : cs.toList = [.slice (some a) 94 cap] := by simpa using hcs
      rw [← Array.getElem?_toList, this]; rfl
    obtain ⟨b, o, spot⟩ := a
    have hspot : spot = Option.none := by simpa [Addr.add] using World.cell?_spot (hD 0 75 107 (by decide) (by decide +kernel)).1
    subst hspot
    have hE : ∀ i x y, i < 94 → orbZ[i]? = some (x, y) → W.cell? ⟨b, o + i * 2, Option.none⟩ = some (.int .u16 x) ∧ W.cell? ⟨b, o + i * 2 + 1, Option.none⟩ = some (.int .u16 y) := fun i x y h94 hz => by
      obtain ⟨h1, h2⟩ := hD i x y h94 hz
      rw [Addr.add_lit] at h1 h2
      rw [Addr.add_lit] at h2
      exact ⟨h1, h2⟩
    exact ⟨b, o, cap, hv, (hE 47 966 981 (by decide) (by decide +kernel)).1, (hE 23 837 921 (by decide) (by decide +kernel)).1, (hE 11 452 453 (by decide) (by decide +kernel)).1, (hE 5 197 229 (by decide) (by decide +kernel)).1, (hE 8 304 304 (by decide) (by decide +kernel)).1, (hE 10 383 83 (by decide) (by decide +kernel)).1, (hE 9 305 305 (by decide) (by decide +kernel)).1, (hE 10 383 83 (by decide) (by decide +kernel)).2⟩
end Go.Proofs.YtdmkfleiipfbgaaDoor
