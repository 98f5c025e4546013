/-
  A start that meets the seat's condition on the library's tables; the row's builder with the world's shape kept; arguments that are fields, or slices of fields, opened.
-/
import Derived.Test.YtmlbinbhicdljaaDoorRows
import Derived.Test.YtmlbinbhicdljaaDoorEP
import Derived.Test.YtmlbinbhicdljaaDoorShelfM
import Derived.WalkKit
import Derived.ProofKit
import Derived.LaidMore
import Derived.OpenShut
import Derived.HandedShaped
import Derived.Stop.Joined
import Derived.Stop.LaidErr
import Derived.Lib.LaidTab
import Derived.Lib.SmallJoins
import Derived.WalkSmall
import Derived.Deep.Slices
import Derived.Deep.Fields
import Derived.SizedLaws
import Derived.Lay
namespace Go.Proofs.YtmlbinbhicdljaaDoor
open Go Go.ChangeShapes Go.WideShapes Go.ChangeAt Go.WideMaps Go.WideElems Go.RowKit

theorem own : ownKnob Tryd.prog.godebug = Option.none := by kernel_rfl
theorem laidOut : laidOutB Tryd.prog = true := by kernel_rfl
theorem cellsFd : Tryd.prog.cellsOf 43 = 2 := by kernel_rfl

theorem start_shaped (os : Os) (args : Array Value) : ((World.laidAll Tryd.prog os Rows.fieldGetsRow.laid).forCall (fun _ _ => 0) ⟨#[], args, []⟩).Shaped Tryd.prog :=
  World.shaped_of_ZipB (by kernel_rfl) (by kernel_rfl)
theorem start_met (os : Os) (args : Array Value) : laidMetH Tryd.prog Rows.fieldGetsRow.laid ((World.laidAll Tryd.prog os Rows.fieldGetsRow.laid).forCall (fun _ _ => 0) ⟨#[], args, []⟩).memory := by
  rw [MakeChecks.laidMetH_plain _ _ _ (by kernel_rfl)]
  exact laidMet_laidAll _ (by kernel_rfl) (by kernel_rfl)
/-- the builder of a row with listed variables -/
theorem lift_shaped {H : Type} {enc : TypeId × Value → H} {a : Assume} {C : Checked} {os : Os} {f : FuncId} {fn : Func} {s : ChangeSpec} {conds : List PathCond} {apart fresh handsOn again : Bool} {X : World → Array Value → Prop}
    (hX : ∀ (w w' : World) (args : Array Value), w.heap = w'.heap → X w args → X w' args)
    (hown : ownKnob C.prog.godebug = Option.none) (started : os.Started) (noInit : C.prog.inits.idxOf? f = Option.none) (hfn : C.prog.funcs[f]? = some fn)
    (witness : ∃ (w : World) (tape : Tape) (i : Input), w.os = os ∧ (w.forCall tape i).Shaped C.prog ∧ i.vars = [] ∧ Input.okWide C.prog (w.forCall tape i) .any w.heap.size f i ∧
      ((s.pre enc C.prog fn conds apart (w.forCall tape i).memory i.args ∧ X (w.forCall tape i).memory i.args) ∧ sizedMet enc C.prog fn (OpenSpec.ofChange s) apart (w.forCall tape i).memory i.args) ∧ a.holds C.prog (lone (Frame.enter C.prog f i.args .normal) [] (w.forCall tape i)))
    (contract : ∀ (W : World) (base : Nat) (args : Array Value) (ds gs : List (DataW H)) (before : List MemPlace),
      (∀ (j : Nat) t v, fn.params[j]? = some t → args[j]? = some v → Value.okWide C.prog W .any base t v) →
      DataW.Whole enc C.prog fn.params.toList s.vars apart W args.toList ds gs before →
      (DataW.weightsEach C.prog (fn.params.toList ++ s.plain.varTypes C.prog) (ds ++ gs)).all (· ≤ reachBytes) = true → X W args → W.ShapedOpen C.prog →
      Calls C.prog f args W fun e W' => ∃ v, e = .returned v ∧ s.post enc C.prog fn apart fresh handsOn again W args v W') :
    ReturnsInHanded a C os f .any (fun w args => (s.pre enc C.prog fn conds apart w args ∧ X w args) ∧ sizedMet enc C.prog fn (OpenSpec.ofChange s) apart w args) (s.post enc C.prog fn apart fresh handsOn again) := by
  refine returnsInHanded_of_calls hown started noInit witness ?_
  intro w tape i _ hsh _ hok hpre _
  obtain ⟨_, _, _, fn', hfn', _, _, _, _, hval⟩ := hok
  have e : fn' = fn := Option.some.inj (hfn'.symm.trans hfn)
  subst e
  obtain ⟨⟨⟨ds, gs, before, hw, _⟩, hx⟩, hz⟩ := hpre
  have hw' := DataW.Whole.of_heap (w' := w.forCall tape i) (by rfl) hw
  refine (contract (w.forCall tape i) w.heap.size i.args ds gs before hval hw' (hz.weights hw) (hX _ _ _ (by rfl) hx) hsh).mono fun e W' ⟨v, he, hp⟩ => ?_
  subst he
  exact ChangeSpec.post_blind hp


theorem reach_eq : reachBytes = szM := rfl
/-- the library's variable is some number -/
theorem mx_of {W : World} (hsh : W.ShapedOpen Tryd.prog) : MxAt W := by
  obtain ⟨m, hm⟩ := Tryd.laysM145.s1_3 W hsh
  exact ⟨m, hm, World.block_lt_of_cell? W ⟨0, 0, Option.none⟩ hm⟩
theorem weights_all {H : Type} {P : Program} {e : TypeId} : ∀ {l : List (DataW H)} {d : DataW H}, d ∈ l → ∀ n ∈ d.weights P e, n ∈ DataW.weightsAll P e l
  | d' :: r, d, hd, n, hn => by
    simp only [DataW.weightsAll, List.mem_append]
    rcases List.mem_cons.1 hd with rfl | h
    · exact Or.inl hn
    · exact Or.inr (weights_all h n hn)
/-- what an argument weighs -/
theorem weighs {H : Type} {P : Program} {ts : List TypeId} {ds : List (DataW H)} (h : (DataW.weightsEach P ts ds).all (· ≤ reachBytes) = true) {j : Nat} {t : TypeId} {d : DataW H} (ht : ts[j]? = some t) (hd : ds[j]? = some d) : ∀ n ∈ d.weights P t, n ≤ szM := fun n hn => by
  have := List.all_eq_true.1 h _ (DataW.weights_mem_each ht hd n hn)
  exact of_decide_eq_true this

set_option maxRecDepth 100000 in
/-- a field by value, opened -/
theorem open_field {H : Type} {enc : TypeId × Value → H} {W : World} {b0 base : Nat} {sp : Nat → Bool} {held : Bool} {v : Value} {d : DataW H} {p : List MemPlace}
    (hv : Value.okWide Tryd.prog W .any b0 43 v) (h : DataW.Trod enc Tryd.prog W base sp held 43 v d p) (hz : ∀ n ∈ d.weights Tryd.prog 43, n ≤ szM) :
    ∃ (s t : ByteArray), v = .agg #[.string s, .string t] ∧ s.size ≤ szM ∧ t.size ≤ szM := by
  obtain ⟨v0, v1, y0, y1, n, rfl, rfl, -, h0, h1⟩ := Joins.open_agg2 Tryd.underlying43 (by kernel_rfl) cellsFd hv h
  obtain ⟨k0, e0, x0, -⟩ := DataW.trod_string Tryd.underlying9 h0
  obtain ⟨k1, e1, x1, -⟩ := DataW.trod_string Tryd.underlying9 h1
  simp only [List.cons.injEq, and_true] at e0 e1
  subst e0; subst e1
  have e0 : y0.1 = .lit (.string k0.data.toList) := by rw [x0]
  have e1 : y1.1 = .lit (.string k1.data.toList) := by rw [x1]
  refine ⟨k0, k1, rfl, ?_, ?_⟩
  · have := hz k0.data.toList.length (by
      simp only [DataW.weights, Tryd.underlying43]
      rw [e0]
      simp [DataW.weightsEach, DataW.weights])
    rw [Lib.size_eq]; exact this
  · have := hz k1.data.toList.length (by
      simp only [DataW.weights, Tryd.underlying43]
      rw [e1]
      simp [DataW.weightsEach, DataW.weights])
    rw [Lib.size_eq]; exact this

set_option maxRecDepth 100000 in
/-- a slice of fields that came in, opened -/
theorem open_fields {H : Type} {enc : TypeId × Value → H} {W : World} {b0 base : Nat} {sp : Nat → Bool} {held : Bool} {v : Value} {d : DataW H} {p : List MemPlace}
    (hv : Value.okWide Tryd.prog W .any b0 22 v) (h : DataW.Trod enc Tryd.prog W base sp held 22 v d p) (hz : ∀ n ∈ d.weights Tryd.prog 22, n ≤ szM) :
    ∃ (A : Option Addr) (n c : Nat) (l : List Fd), v = .slice A n c ∧ l.length = n ∧ n ≤ maxLen ∧ Mx l ∧ FdAt W W.heap.size A l := by
  obtain ⟨a, n, c, rfl⟩ := okWide_slice Tryd.underlying22 hv
  obtain ⟨fuel, hf⟩ := h
  rcases Deep.open_slice Tryd.underlying22 hf with ⟨h0, _⟩ | ⟨ad, len, cap, m, n', D, Pl, hcs, hb, hl, hm, hmm, hx, hi⟩
  · have e : Value.slice a n c = .slice none 0 0 := by simpa [Value.cells] using h0
    injection e with e1 e2 e3
    subst e1; subst e2
    exact ⟨none, 0, c, [], rfl, rfl, Nat.zero_le _, fun x hx => absurd hx (by simp), fun h => absurd h (by simp)⟩
  · have e : Value.slice a n c = .slice (some ad) len cap := by simpa [Value.cells] using hcs
    injection e with e1 e2 e3
    subst e1; subst e2; subst e3
    have hlm : n ≤ m := by rw [hmm]; split <;> omega
    have hd : d = .slice ((List.range n).map D) ((List.range (m - n)).map fun j => D (n + j)) := congrArg Prod.fst hx
    have hex : ∀ i, i < n → ∃ q : Fd, W.cell? (ad.add (i * 2)) = some (.string q.1) ∧ W.cell? ((ad.add (i * 2)).add 1) = some (.string q.2) ∧ q.1.size ≤ szM ∧ q.2.size ≤ szM := fun i hin => by
      obtain ⟨cs', hc, ht⟩ := hi i (by omega)
      rw [cellsFd] at hc
      obtain ⟨ys, k, _, hxd, hcl, hyl, hg⟩ := DataW.trod_struct Tryd.underlying43 ht
      obtain ⟨_, _, hat⟩ := World.cells?_some hc
      rw [cellsFd] at hcl
      match cs', hcl, hyl, hat, hg with
      | [u, v], _, hyl, hat, hg =>
        have hone : Tryd.prog.cellsOf 9 = 1 := by kernel_rfl
        have h0 := hg 0 { name := "Name", type := 9, offset := 0, embedded := false, tag := "", pkgPath := "", byteOffset := 0 } rfl
        have h1 := hg 1 { name := "Value", type := 9, offset := 1, embedded := false, tag := "", pkgPath := "", byteOffset := 16 } rfl
        dsimp only at h0 h1
        rw [hone] at h0
        rw [hone] at h1
        have hys : ys.length = 2 := hyl
        obtain ⟨y0, y1, hyy⟩ : ∃ y0 y1, ys = [y0, y1] := by
          clear h0 h1 hg hxd hyl
          match ys, hys with
          | [a, b], _ => exact ⟨a, b, rfl⟩
        subst hyy
        rw [List.getElem?_eq_getElem (by simp)] at h0 h1
        obtain ⟨k0, e0, x0, _⟩ := DataW.trod_string Tryd.underlying9 h0
        obtain ⟨k1, e1, x1, -⟩ := DataW.trod_string Tryd.underlying9 h1
        have e0' : u = .string k0 := by simpa using e0
        have e1' : v = .string k1 := by simpa using e1
        subst e0'; subst e1'
        have a0 := hat 0 (by simp)
        have a1 := hat 1 (by simp)
        have hDi : D i = .agg [y0.1, y1.1] := congrArg Prod.fst hxd
        have e0 : y0.1 = .lit (.string k0.data.toList) := by
          have : y0 = _ := x0
          rw [this]
        have e1 : y1.1 = .lit (.string k1.data.toList) := by
          have : y1 = _ := x1
          rw [this]
        have hwt : ∀ m ∈ (D i).weights Tryd.prog 43, m ≤ szM := fun m hm => hz _ (by
          rw [hd]
          simp only [DataW.weights, Tryd.underlying22, List.mem_cons, List.mem_append]
          exact Or.inr (Or.inl (weights_all (List.mem_map.2 ⟨i, by simpa using hin, rfl⟩) _ hm)))
        refine ⟨(k0, k1), by simpa [Addr.add] using a0, by simpa using a1, ?_, ?_⟩
        · show k0.size ≤ szM
          rw [Lib.size_eq]
          apply hwt
          rw [hDi]
          simp only [DataW.weights, Tryd.underlying43]
          rw [e0]
          simp [DataW.weightsEach, DataW.weights]
        · show k1.size ≤ szM
          rw [Lib.size_eq]
          apply hwt
          rw [hDi]
          simp only [DataW.weights, Tryd.underlying43]
          rw [e1]
          simp [DataW.weightsEach, DataW.weights]
    obtain ⟨f, hfs⟩ : ∃ f : Nat → Fd, ∀ i, i < n → W.cell? (ad.add (i * 2)) = some (.string (f i).1) ∧ W.cell? ((ad.add (i * 2)).add 1) = some (.string (f i).2) ∧ (f i).1.size ≤ szM ∧ (f i).2.size ≤ szM :=
      ⟨fun i => if h : i < n then Classical.choose (hex i h) else (⟨#[]⟩, ⟨#[]⟩), fun i h => by simp only [h, dif_pos]; exact Classical.choose_spec (hex i h)⟩
    refine ⟨some ad, n, c, (List.range n).map f, rfl, by simp, by omega, fun x hx => ?_, fun hpos => ?_⟩
    · obtain ⟨i, hi, rfl⟩ := List.mem_map.1 hx
      exact (hfs i (by simpa using hi)).2.2
    have hn0 : 0 < n := by simpa using hpos
    obtain ⟨b, o, spot⟩ := ad
    have hspot : spot = Option.none := by simpa [Addr.add] using World.cell?_spot (hfs 0 hn0).1
    subst hspot
    have hlt : b < W.heap.size := World.block_lt_of_cell? W ⟨b, o, Option.none⟩ (by have := (hfs 0 hn0).1; simpa [Addr.add] using this)
    refine ⟨b, o, rfl, hlt, fun j hj => ?_⟩
    have hj' : j < n := by simpa using hj
    obtain ⟨h1, h2, -⟩ := hfs j hj'
    rw [Addr.add_lit] at h1 h2
    rw [Addr.add_lit] at h2
    simpa using ⟨h1, h2⟩

/-- a text, opened -/
theorem open_text {H : Type} {enc : TypeId × Value → H} {W : World} {b0 base : Nat} {sp : Nat → Bool} {held : Bool} {v : Value} {d : DataW H} {p : List MemPlace}
    (hv : Value.okWide Tryd.prog W .any b0 9 v) (h : DataW.Trod enc Tryd.prog W base sp held 9 v d p) (hz : ∀ n ∈ d.weights Tryd.prog 9, n ≤ szM) :
    ∃ s : ByteArray, v = .string s ∧ s.size ≤ szM := by
  obtain ⟨s, rfl, rfl, -, -⟩ := ChangeMaps.open_string Tryd.underlying9 hv h
  refine ⟨s, rfl, ?_⟩
  have := hz s.data.toList.length (by simp [DataW.weights])
  rw [Lib.size_eq]; exact this

set_option maxRecDepth 100000 in
/-- a slice of texts that came in, opened -/
theorem open_texts {H : Type} {enc : TypeId × Value → H} {W : World} {b0 base : Nat} {sp : Nat → Bool} {held : Bool} {v : Value} {d : DataW H} {p : List MemPlace}
    (hv : Value.okWide Tryd.prog W .any b0 29 v) (h : DataW.Trod enc Tryd.prog W base sp held 29 v d p) (hz : ∀ n ∈ d.weights Tryd.prog 29, n ≤ szM) :
    ∃ (A : Option Addr) (n c : Nat) (l : List ByteArray), v = .slice A n c ∧ l.length = n ∧ n ≤ maxLen ∧ (∀ x ∈ l, x.size ≤ szM) ∧ TxAt W W.heap.size A l := by
  obtain ⟨a, n, c, rfl⟩ := okWide_slice Tryd.underlying29 hv
  obtain ⟨fuel, hf⟩ := h
  rcases Deep.open_slice Tryd.underlying29 hf with ⟨h0, _⟩ | ⟨ad, len, cap, m, n', D, Pl, hcs, hb, hl, hm, hmm, hx, hi⟩
  · have e : Value.slice a n c = .slice none 0 0 := by simpa [Value.cells] using h0
    injection e with e1 e2 e3
    subst e1; subst e2
    exact ⟨none, 0, c, [], rfl, rfl, Nat.zero_le _, fun x hx => absurd hx (by simp), fun h => absurd h (by simp)⟩
  · have e : Value.slice a n c = .slice (some ad) len cap := by simpa [Value.cells] using hcs
    injection e with e1 e2 e3
    subst e1; subst e2; subst e3
    have hlm : n ≤ m := by rw [hmm]; split <;> omega
    have hd : d = .slice ((List.range n).map D) ((List.range (m - n)).map fun j => D (n + j)) := congrArg Prod.fst hx
    have hone : Tryd.prog.cellsOf 9 = 1 := by kernel_rfl
    have hex : ∀ i, i < n → ∃ q : ByteArray, W.cell? (ad.add i) = some (.string q) ∧ q.size ≤ szM := fun i hin => by
      obtain ⟨cs', hc, ht⟩ := hi i (by omega)
      rw [hone] at hc
      obtain ⟨k0, e0, x0, _⟩ := DataW.trod_string Tryd.underlying9 ht
      obtain ⟨_, _, hat⟩ := World.cells?_some hc
      subst e0
      have a0 := hat 0 (by simp)
      have hDi : D i = .lit (.string k0.data.toList) := congrArg Prod.fst x0
      refine ⟨k0, by simpa [Addr.add] using a0, ?_⟩
      rw [Lib.size_eq]
      apply hz
      rw [hd]
      simp only [DataW.weights, Tryd.underlying29, List.mem_cons, List.mem_append]
      exact Or.inr (Or.inl (weights_all (List.mem_map.2 ⟨i, by simpa using hin, rfl⟩) _ (by rw [hDi]; simp [DataW.weights])))
    obtain ⟨f, hfs⟩ : ∃ f : Nat → ByteArray, ∀ i, i < n → W.cell? (ad.add i) = some (.string (f i)) ∧ (f i).size ≤ szM :=
      ⟨fun i => if h : i < n then Classical.choose (hex i h) else ⟨#[]⟩, fun i h => by simp only [h, dif_pos]; exact Classical.choose_spec (hex i h)⟩
    refine ⟨some ad, n, c, (List.range n).map f, rfl, by simp, by omega, fun x hx => ?_, fun hpos => ?_⟩
    · obtain ⟨i, hi, rfl⟩ := List.mem_map.1 hx
      exact (hfs i (by simpa using hi)).2
    have hn0 : 0 < n := by simpa using hpos
    obtain ⟨b, o, spot⟩ := ad
    have hspot : spot = Option.none := by simpa [Addr.add] using World.cell?_spot (hfs 0 hn0).1
    subst hspot
    have hlt : b < W.heap.size := World.block_lt_of_cell? W ⟨b, o, Option.none⟩ (by have := (hfs 0 hn0).1; simpa [Addr.add] using this)
    refine ⟨b, o, rfl, hlt, fun j hj => ?_⟩
    have hj' : j < n := by simpa using hj
    have h1 := (hfs j hj').1
    rw [Addr.add_lit] at h1
    simpa using h1
end Go.Proofs.YtmlbinbhicdljaaDoor
