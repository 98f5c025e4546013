/-
  What the seat's ten listed variables give a walk; a start that meets the condition; fields opened.
-/
import Derived.Test.YtomcoacndppkcaaGreatDoorUO
import Derived.Test.YtomcoacndppkcaaGreatDoorWH
namespace Go.Proofs.YtomcoacndppkcaaGreatDoor
open Go Go.ChangeShapes Go.WideShapes Go.ChangeAt Go.WideMaps Go.WideElems Go.RowKit
open T (szM)

theorem start_shaped (os : Os) (args : Array Value) : ((World.laidAll Tryz.prog os Rows.condParsesRow.laid).forCall (fun _ _ => 0) ⟨#[], args, []⟩).Shaped Tryz.prog :=
  World.shaped_of_ZipB (by kernel_rfl) (by kernel_rfl)
theorem start_met (os : Os) (args : Array Value) : laidMetH Tryz.prog Rows.condParsesRow.laid ((World.laidAll Tryz.prog os Rows.condParsesRow.laid).forCall (fun _ _ => 0) ⟨#[], args, []⟩).memory := by
  rw [MakeChecks.laidMetH_plain _ _ _ (by kernel_rfl)]
  exact laidMet_laidAll _ (by kernel_rfl) (by kernel_rfl)
theorem cellsFd : Tryz.prog.cellsOf 40 = 2 := by kernel_rfl

/-- an array of texts that reads as a table holds its texts -/
theorem cells_of_stab {H : Type} {enc : TypeId × Value → H} {P : Program} {w : World} {base : Nat} {sp : Nat → Bool} {held : Bool} {fuel : Nat} {t e : TypeId} {n : Nat} {cs : List Value} {zs : List (List UInt8)} {p : List MemPlace}
    (ht : P.underlying t = some (.array n e)) (he : P.underlying e = some .string) (hce : P.cellsOf e = 1) (hct : P.cellsOf t = n)
    (h : DataW.trod enc P w base sp held fuel t cs = some (.agg (zs.map fun z => .lit (.string z)), p)) : cs = zs.map fun z => Value.string ⟨z.toArray⟩ := by
  cases fuel with
  | zero => simp [DataW.trod] at h
  | succ fuel =>
    simp only [DataW.trod, ht, hce, hct, Nat.mul_one] at h
    split at h
    · rename_i hl
      obtain ⟨xs, hm, hx⟩ := Option.map_eq_some_iff.1 h
      have hxs : xs.map (·.1) = zs.map fun z => (DataW.lit (.string z) : DataW H) := by
        have := congrArg Prod.fst hx
        simpa using this
      have hxl : xs.length = n := by simpa using Lib.mapM_length hm
      have hzl : zs.length = n := by
        have := congrArg List.length hxs
        simp at this
        omega
      apply List.ext_getElem?
      intro i
      by_cases hi : i < n
      · obtain ⟨b, hb, hf⟩ := Lib.mapM_at hm i i (by simp [hi])
        obtain ⟨z, hc, rfl, _⟩ := DataW.trod_string he hf
        have h1 : cs[i]? = some (.string z) := by
          have := congrArg (·[0]?) hc
          simpa [List.getElem?_take, List.getElem?_drop] using this
        have h2 : (xs.map (·.1))[i]? = some (DataW.lit (.string z.data.toList) : DataW H) := by simp [hb]
        rw [hxs] at h2
        simp only [List.getElem?_map, Option.map_eq_some_iff, DataW.lit.injEq, Lit.string.injEq] at h2
        obtain ⟨z', hz', rfl⟩ := h2
        simp [h1, hz']
      · rw [List.getElem?_eq_none (by omega), List.getElem?_eq_none (by simp; omega)]
    · cases h
theorem stab_of_head {P : Program} {W : World} {name : String} {zs : List (List UInt8)} {rest : List (String × DataW Unit)} {g : Nat} {t e : TypeId} {n : Nat}
    (hg : P.globalNamed name = some g) (hty : (P.globals[g]?).map (·.type) = some t) (ht : P.underlying t = some (.array n e)) (he : P.underlying e = some .string) (hce : P.cellsOf e = 1) (hct : P.cellsOf t = n)
    (h : laidMet P ((name, .agg (zs.map fun z => .lit (.string z))) :: rest) W) : W.var? P name = some (zs.map fun z => Value.string ⟨z.toArray⟩).toArray := by
  obtain ⟨ps, ⟨g', t', cs, fuel, p, q, hg', ht', hvar, hd, _, _⟩, _⟩ := h
  obtain rfl := Option.some.inj (hg.symm.trans hg')
  obtain rfl := Option.some.inj (hty.symm.trans ht')
  rw [hvar, ← cells_of_stab ht he hce hct hd]
theorem lt_of_var {P : Program} {w : World} {n : String} {g : Nat} {cs : Array Value} (hg : P.globalNamed n = some g) (h : w.var? P n = some cs) : g < w.heap.size := by
  unfold World.var? at h
  rw [hg] at h
  rcases Nat.lt_or_ge g w.heap.size with h' | h'
  · exact h'
  · simp only [Option.bind_some, Array.getElem?_eq_none h'] at h
    cases h

theorem gES : Tryz.prog.globalNamed "strconv.ErrSyntax" = some 6 := by kernel_rfl
theorem gWk : Tryz.prog.globalNamed "mandoline/date.weekNames" = some 0 := by kernel_rfl
theorem gMo : Tryz.prog.globalNamed "mandoline/date.monthNames" = some 1 := by kernel_rfl
theorem gMd : Tryz.prog.globalNamed "mandoline/date.monthDays" = some 2 := by kernel_rfl
theorem gTabType : (Tryz.prog.globals[8]?).map (·.type) = some 174 := by kernel_rfl
theorem gESType : (Tryz.prog.globals[6]?).map (·.type) = some 107 := by kernel_rfl
theorem gWkType : (Tryz.prog.globals[0]?).map (·.type) = some 86 := by kernel_rfl
theorem gMoType : (Tryz.prog.globals[1]?).map (·.type) = some 88 := by kernel_rfl
theorem gMdType : (Tryz.prog.globals[2]?).map (·.type) = some 131 := by kernel_rfl
theorem cellsTab : Tryz.prog.cellsOf 174 = 20 := by kernel_rfl
theorem cellsWk : Tryz.prog.cellsOf 86 = 7 := by kernel_rfl
theorem cellsMo : Tryz.prog.cellsOf 88 = 12 := by kernel_rfl
theorem cellsMd : Tryz.prog.cellsOf 131 = 12 := by kernel_rfl
theorem cellsU64 : Tryz.prog.cellsOf 146 = 1 := by kernel_rfl
theorem cellsInt : Tryz.prog.cellsOf 3 = 1 := by kernel_rfl
theorem cellsES : Tryz.prog.cellsOf 179 = 1 := by kernel_rfl
theorem cellsStr : Tryz.prog.cellsOf 9 = 1 := by kernel_rfl
theorem starES : "*" ++ "errors.errorString" = "*errors.errorString" := by decide
theorem rowES (u : TypeId) (h : Tryz.prog.typeName? 3 u = some "*errors.errorString") : u = 177 :=
  typeName_ptr_named (nm := "errors.errorString") (by rw [starES]; kernel_rfl) (by kernel_rfl) (by decide) u (by rw [starES]; exact h)

def wkL : List (List UInt8) := [[83, 117, 110], [77, 111, 110], [84, 117, 101], [87, 101, 100], [84, 104, 117], [70, 114, 105], [83, 97, 116]]
def moL : List (List UInt8) := [[74, 97, 110], [70, 101, 98], [77, 97, 114], [65, 112, 114], [77, 97, 121], [74, 117, 110], [74, 117, 108], [65, 117, 103], [83, 101, 112], [79, 99, 116], [78, 111, 118], [68, 101, 99]]
theorem wkL_at : ∀ k : Nat, k < 7 → (wkL.map fun z => Value.string ⟨z.toArray⟩).toArray[k]? = some (.string (D.wkB k)) := by
  intro k hk
  have : k = 0 ∨ k = 1 ∨ k = 2 ∨ k = 3 ∨ k = 4 ∨ k = 5 ∨ k = 6 := by omega
  rcases this with rfl | rfl | rfl | rfl | rfl | rfl | rfl <;> (show _ = _; kernel_rfl)
theorem moL_at : ∀ k : Nat, k < 12 → (moL.map fun z => Value.string ⟨z.toArray⟩).toArray[k]? = some (.string (D.moB (k + 1))) := by
  intro k hk
  have : k = 0 ∨ k = 1 ∨ k = 2 ∨ k = 3 ∨ k = 4 ∨ k = 5 ∨ k = 6 ∨ k = 7 ∨ k = 8 ∨ k = 9 ∨ k = 10 ∨ k = 11 := by omega
  rcases this with rfl | rfl | rfl | rfl | rfl | rfl | rfl | rfl | rfl | rfl | rfl | rfl <;> (show _ = _; kernel_rfl)

theorem of_laid {W : World} (h : laidMetH Tryz.prog Rows.condParsesRow.laid W) (_hsh : W.ShapedOpen Tryz.prog) : D.LaidD W := by
  rw [MakeChecks.laidMetH_plain _ _ _ (by kernel_rfl)] at h
  have h2 := laidMet.tail (laidMet.tail h)
  have h4 := laidMet.tail (laidMet.tail (laidMet.tail h2))
  have h5 := laidMet.tail h4
  have h6 := laidMet.tail h5
  have h7 := laidMet.tail h6
  have ht := Lib.tabIs_of_head (zs := Lib.pow10Tab) D.gTab gTabType Tryz.underlying174 Tryz.underlying146 cellsU64 cellsTab h2
  obtain ⟨a2, s2, hv2, -⟩ := laid_sentinel h4 gES gESType Tryz.underlying107 rowES Tryz.underlying177 Tryz.underlying179 rfl rfl Tryz.underlying9 cellsES cellsStr
  have hw := stab_of_head (zs := wkL) gWk gWkType Tryz.underlying86 Tryz.underlying9 cellsStr cellsWk h5
  have hm := stab_of_head (zs := moL) gMo gMoType Tryz.underlying88 Tryz.underlying9 cellsStr cellsMo h6
  have hd := Lib.tabIs_of_head (zs := [31, 28, 31, 30, 31, 30, 31, 31, 30, 31, 30, 31]) gMd gMdType Tryz.underlying131 Tryz.underlying3 cellsInt cellsMd h7
  exact ⟨ht, ⟨_, _, by have := World.var?_cell gES hv2 0; simpa using this⟩, fun k hk => by have := World.var?_cell gWk hw k; rw [wkL_at k hk] at this; exact this, fun k hk => by have := World.var?_cell gMo hm k; rw [moL_at k hk] at this; exact this, fun k hk => hd.cell gMd k hk,
    lt_of_var D.gTab ht, lt_of_var gES hv2, lt_of_var gWk hw, lt_of_var gMo hm, lt_of_var gMd hd⟩

set_option maxRecDepth 100000 in
/-- a field by value, opened -/
theorem open_field {H : Type} {enc : TypeId × Value → H} {W : World} {b0 base : Nat} {sp : Nat → Bool} {held : Bool} {v : Value} {d : DataW H} {p : List MemPlace}
    (hv : Value.okWide Tryz.prog W .any b0 40 v) (h : DataW.Trod enc Tryz.prog W base sp held 40 v d p) (hz : ∀ n ∈ d.weights Tryz.prog 40, n ≤ szM) :
    ∃ (s t : ByteArray), v = .agg #[.string s, .string t] ∧ s.size ≤ szM ∧ t.size ≤ szM := by
  obtain ⟨v0, v1, y0, y1, n, rfl, rfl, -, h0, h1⟩ := Joins.open_agg2 Tryz.underlying40 (by kernel_rfl) cellsFd hv h
  obtain ⟨k0, e0, x0, -⟩ := DataW.trod_string Tryz.underlying9 h0
  obtain ⟨k1, e1, x1, -⟩ := DataW.trod_string Tryz.underlying9 h1
  simp only [List.cons.injEq, and_true] at e0 e1
  subst e0; subst e1
  have e0 : y0.1 = .lit (.string k0.data.toList) := by rw [x0]
  have e1 : y1.1 = .lit (.string k1.data.toList) := by rw [x1]
  refine ⟨k0, k1, rfl, ?_, ?_⟩
  · have := hz k0.data.toList.length (by
      simp only [DataW.weights, Tryz.underlying40]
      rw [e0]
      simp [DataW.weightsEach, DataW.weights])
    rw [Lib.size_eq]; exact this
  · have := hz k1.data.toList.length (by
      simp only [DataW.weights, Tryz.underlying40]
      rw [e1]
      simp [DataW.weightsEach, DataW.weights])
    rw [Lib.size_eq]; exact this

set_option maxRecDepth 100000 in
/-- a slice of fields that came in, opened -/
theorem open_fields {H : Type} {enc : TypeId × Value → H} {W : World} {b0 base : Nat} {sp : Nat → Bool} {held : Bool} {v : Value} {d : DataW H} {p : List MemPlace}
    (hv : Value.okWide Tryz.prog W .any b0 22 v) (h : DataW.Trod enc Tryz.prog W base sp held 22 v d p) (hz : ∀ n ∈ d.weights Tryz.prog 22, n ≤ szM) :
    ∃ (A : Option Addr) (n c : Nat) (l : List F.Fd), v = .slice A n c ∧ l.length = n ∧ n ≤ maxLen ∧ F.Mx l ∧ F.FdAt W W.heap.size A l := by
  obtain ⟨a, n, c, rfl⟩ := okWide_slice Tryz.underlying22 hv
  obtain ⟨fuel, hf⟩ := h
  rcases Deep.open_slice Tryz.underlying22 hf with ⟨h0, _⟩ | ⟨ad, len, cap, m, n', D, Pl, hcs, hb, hl, hm, hmm, hx, hi⟩
  · have e : Value.slice a n c = .slice none 0 0 := by simpa [Value.cells] using h0
    injection e with e1 e2 e3
    subst e1; subst e2
    exact ⟨none, 0, c, [], rfl, rfl, Nat.zero_le _, fun x hx => absurd hx (by simp), fun h => absurd h (by simp)⟩
  · have e : Value.slice a n c = .slice (some ad) len cap := by simpa [Value.cells] using hcs
    injection e with e1 e2 e3
    subst e1; subst e2; subst e3
    have hlm : n ≤ m := by rw [hmm]; split <;> omega
    have hd : d = .slice ((List.range n).map D) ((List.range (m - n)).map fun j => D (n + j)) := congrArg Prod.fst hx
    have hex : ∀ i, i < n → ∃ q : F.Fd, W.cell? (ad.add (i * 2)) = some (.string q.1) ∧ W.cell? ((ad.add (i * 2)).add 1) = some (.string q.2) ∧ q.1.size ≤ szM ∧ q.2.size ≤ szM := fun i hin => by
      obtain ⟨cs', hc, ht⟩ := hi i (by omega)
      rw [cellsFd] at hc
      obtain ⟨ys, k, _, hxd, hcl, hyl, hg⟩ := DataW.trod_struct Tryz.underlying40 ht
      obtain ⟨_, _, hat⟩ := World.cells?_some hc
      rw [cellsFd] at hcl
      match cs', hcl, hyl, hat, hg with
      | [u, v], _, hyl, hat, hg =>
        have hone : Tryz.prog.cellsOf 9 = 1 := by kernel_rfl
        have h0 := hg 0 { name := "Name", type := 9, offset := 0, embedded := false, tag := "", pkgPath := "", byteOffset := 0 } rfl
        have h1 := hg 1 { name := "Value", type := 9, offset := 1, embedded := false, tag := "", pkgPath := "", byteOffset := 16 } rfl
        dsimp only at h0 h1
        rw [hone] at h0
        rw [hone] at h1
        have hys : ys.length = 2 := hyl
        obtain ⟨y0, y1, hyy⟩ : ∃ y0 y1, ys = [y0, y1] := by
          clear h0 h1 hg hxd hyl
          match ys, hys with
          | [a, b], _ => exact ⟨a, b, rfl⟩
        subst hyy
        rw [List.getElem?_eq_getElem (by simp)] at h0 h1
        obtain ⟨k0, e0, x0, _⟩ := DataW.trod_string Tryz.underlying9 h0
        obtain ⟨k1, e1, x1, -⟩ := DataW.trod_string Tryz.underlying9 h1
        have e0' : u = .string k0 := by simpa using e0
        have e1' : v = .string k1 := by simpa using e1
        subst e0'; subst e1'
        have a0 := hat 0 (by simp)
        have a1 := hat 1 (by simp)
        have hDi : D i = .agg [y0.1, y1.1] := congrArg Prod.fst hxd
        have e0 : y0.1 = .lit (.string k0.data.toList) := by
          have : y0 = _ := x0
          rw [this]
        have e1 : y1.1 = .lit (.string k1.data.toList) := by
          have : y1 = _ := x1
          rw [this]
        have hwt : ∀ m ∈ (D i).weights Tryz.prog 40, m ≤ szM := fun m hm => hz _ (by
          rw [hd]
          simp only [DataW.weights, Tryz.underlying22, List.mem_cons, List.mem_append]
          exact Or.inr (Or.inl (weights_all (List.mem_map.2 ⟨i, by simpa using hin, rfl⟩) _ hm)))
        refine ⟨(k0, k1), by simpa [Addr.add] using a0, by simpa using a1, ?_, ?_⟩
        · show k0.size ≤ szM
          rw [Lib.size_eq]
          apply hwt
          rw [hDi]
          simp only [DataW.weights, Tryz.underlying40]
          rw [e0]
          simp [DataW.weightsEach, DataW.weights]
        · show k1.size ≤ szM
          rw [Lib.size_eq]
          apply hwt
          rw [hDi]
          simp only [DataW.weights, Tryz.underlying40]
          rw [e1]
          simp [DataW.weightsEach, DataW.weights]
    obtain ⟨f, hfs⟩ : ∃ f : Nat → F.Fd, ∀ i, i < n → W.cell? (ad.add (i * 2)) = some (.string (f i).1) ∧ W.cell? ((ad.add (i * 2)).add 1) = some (.string (f i).2) ∧ (f i).1.size ≤ szM ∧ (f i).2.size ≤ szM :=
      ⟨fun i => if h : i < n then Classical.choose (hex i h) else (⟨#[]⟩, ⟨#[]⟩), fun i h => by simp only [h, dif_pos]; exact Classical.choose_spec (hex i h)⟩
    refine ⟨some ad, n, c, (List.range n).map f, rfl, by simp, by omega, fun x hx => ?_, fun hpos => ?_⟩
    · obtain ⟨i, hi, rfl⟩ := List.mem_map.1 hx
      exact (hfs i (by simpa using hi)).2.2
    have hn0 : 0 < n := by simpa using hpos
    obtain ⟨b, o, spot⟩ := ad
    have hspot : spot = Option.none := by simpa [Addr.add] using World.cell?_spot (hfs 0 hn0).1
    subst hspot
    have hlt : b < W.heap.size := World.block_lt_of_cell? W ⟨b, o, Option.none⟩ (by have := (hfs 0 hn0).1; simpa [Addr.add] using this)
    refine ⟨b, o, rfl, hlt, fun j hj => ?_⟩
    have hj' : j < n := by simpa using hj
    obtain ⟨h1, h2, -⟩ := hfs j hj'
    rw [Addr.add_lit] at h1 h2
    rw [Addr.add_lit] at h2
    simpa using ⟨h1, h2⟩

end Go.Proofs.YtomcoacndppkcaaGreatDoor
