/-
  What the seat's listed package variables give a walk, that it outlives new blocks, a start that meets the condition, and the row's builder with the world's shape kept.
-/
import Derived.Test.YthbjhpfgfpkppaaGreatDoorRows
import Derived.Test.YthbjhpfgfpkppaaGreatDoorShelf
import Derived.WalkKit
import Derived.ProofKit
import Derived.LaidMore
import Derived.OpenShut
import Derived.HandedShaped
import Derived.Stop.Joined
import Derived.Stop.LaidErr
import Derived.Lib.LaidTab
import Derived.Lib.SmallJoins
import Derived.WalkSmall
namespace Go.Proofs.YthbjhpfgfpkppaaGreatDoor
open Go Go.ChangeShapes Go.WideShapes Go.ChangeAt Go.WideMaps Go.WideElems Go.RowKit

theorem own : ownKnob Tryz.prog.godebug = Option.none := by kernel_rfl
theorem laidOut : laidOutB Tryz.prog = true := by kernel_rfl
theorem gTab : Tryz.prog.globalNamed "internal/strconv.uint64pow10" = some 3 := by kernel_rfl
theorem gES : Tryz.prog.globalNamed "strconv.ErrSyntax" = some 1 := by kernel_rfl
theorem gER : Tryz.prog.globalNamed "strconv.ErrRange" = some 2 := by kernel_rfl
theorem gTabType : (Tryz.prog.globals[3]?).map (·.type) = some 141 := by kernel_rfl
theorem gESType : (Tryz.prog.globals[1]?).map (·.type) = some 70 := by kernel_rfl
theorem gERType : (Tryz.prog.globals[2]?).map (·.type) = some 70 := by kernel_rfl
theorem cellsTab : Tryz.prog.cellsOf 141 = 20 := by kernel_rfl
theorem cellsU64 : Tryz.prog.cellsOf 100 = 1 := by kernel_rfl
theorem cellsES : Tryz.prog.cellsOf 151 = 1 := by kernel_rfl
theorem cellsStr : Tryz.prog.cellsOf 9 = 1 := by kernel_rfl
theorem cellsSpan : Tryz.prog.cellsOf 41 = 2 := by kernel_rfl
theorem starES : "*" ++ "errors.errorString" = "*errors.errorString" := by decide
theorem rowES (u : TypeId) (h : Tryz.prog.typeName? 3 u = some "*errors.errorString") : u = 149 :=
  typeName_ptr_named (nm := "errors.errorString") (by rw [starES]; kernel_rfl) (by kernel_rfl) (by decide) u (by rw [starES]; exact h)

/-- what a walk wants of the variables -/
structure LaidAt (w : World) : Prop where
  tab : Lib.TabIs Tryz.prog w "internal/strconv.uint64pow10" .u64 Lib.pow10Tab
  es : ∃ tp p, w.var? Tryz.prog "strconv.ErrSyntax" = some #[.iface tp p]
  er : ∃ tp p, w.var? Tryz.prog "strconv.ErrRange" = some #[.iface tp p]
  mx : ∃ m, w.cell? ⟨0, 0, Option.none⟩ = some (.int .i64 m)
  s0 : 3 < w.heap.size
  s1 : 1 < w.heap.size
  s2 : 2 < w.heap.size
  s3 : 0 < w.heap.size

theorem LaidAt.below {w w1 : World} (h : LaidAt w) (hb : Below w.heap.size w w1) : LaidAt w1 := by
  obtain ⟨tp, p, h1⟩ := h.es
  obtain ⟨tq, q, h2⟩ := h.er
  obtain ⟨m, h3⟩ := h.mx
  exact ⟨var?_below hb gTab h.s0 h.tab, ⟨tp, p, var?_below hb gES h.s1 h1⟩, ⟨tq, q, var?_below hb gER h.s2 h2⟩, ⟨m, by rw [hb.cell (p := ⟨0, 0, Option.none⟩) h.s3]; exact h3⟩, Nat.lt_of_lt_of_le h.s0 hb.size, Nat.lt_of_lt_of_le h.s1 hb.size, Nat.lt_of_lt_of_le h.s2 hb.size, Nat.lt_of_lt_of_le h.s3 hb.size⟩

theorem lt_of_var {P : Program} {w : World} {n : String} {g : Nat} {cs : Array Value} (hg : P.globalNamed n = some g) (h : w.var? P n = some cs) : g < w.heap.size := by
  unfold World.var? at h
  rw [hg] at h
  rcases Nat.lt_or_ge g w.heap.size with h' | h'
  · exact h'
  · simp only [Option.bind_some, Array.getElem?_eq_none h'] at h
    cases h

theorem of_laid {W : World} (h : laidMetH Tryz.prog Rows.rangesTextsRow.laid W) (hsh : W.ShapedOpen Tryz.prog) : LaidAt W := by
  rw [MakeChecks.laidMetH_plain _ _ _ (by kernel_rfl)] at h
  have h1 := laidMet.tail (laidMet.tail h)
  have h2 := laidMet.tail (laidMet.tail h1)
  have h3 := laidMet.tail h2
  have ht := Lib.tabIs_of_head (zs := Lib.pow10Tab) gTab gTabType Tryz.underlying141 Tryz.underlying100 cellsU64 cellsTab h1
  obtain ⟨a1, s1, hv1, -⟩ := laid_sentinel h2 gER gERType Tryz.underlying70 rowES Tryz.underlying149 Tryz.underlying151 rfl rfl Tryz.underlying9 cellsES cellsStr
  obtain ⟨a2, s2, hv2, -⟩ := laid_sentinel h3 gES gESType Tryz.underlying70 rowES Tryz.underlying149 Tryz.underlying151 rfl rfl Tryz.underlying9 cellsES cellsStr
  obtain ⟨m, hm⟩ := Tryz.laysM145.s1_3 W hsh
  exact ⟨ht, ⟨_, _, hv2⟩, ⟨_, _, hv1⟩, ⟨m, hm⟩, lt_of_var gTab ht, lt_of_var gES hv2, lt_of_var gER hv1, Lib.lt_of_cell (a := ⟨0, 0, Option.none⟩) hm⟩

/-- the builder of a row with listed variables, the world's shape handed on -/
theorem lift_shaped {H : Type} {enc : TypeId × Value → H} {a : Assume} {C : Checked} {os : Os} {f : FuncId} {fn : Func} {s : ChangeSpec} {conds : List PathCond} {apart fresh handsOn again : Bool} {X : World → Array Value → Prop}
    (hX : ∀ (w w' : World) (args : Array Value), w.heap = w'.heap → X w args → X w' args)
    (hown : ownKnob C.prog.godebug = Option.none) (started : os.Started) (noInit : C.prog.inits.idxOf? f = Option.none) (hfn : C.prog.funcs[f]? = some fn)
    (witness : ∃ (w : World) (tape : Tape) (i : Input), w.os = os ∧ (w.forCall tape i).Shaped C.prog ∧ i.vars = [] ∧ Input.okWide C.prog (w.forCall tape i) .any w.heap.size f i ∧
      ((s.pre enc C.prog fn conds apart (w.forCall tape i).memory i.args ∧ X (w.forCall tape i).memory i.args) ∧ sizedMet enc C.prog fn (OpenSpec.ofChange s) apart (w.forCall tape i).memory i.args) ∧ a.holds C.prog (lone (Frame.enter C.prog f i.args .normal) [] (w.forCall tape i)))
    (contract : ∀ (W : World) (base : Nat) (args : Array Value) (ds gs : List (DataW H)) (before : List MemPlace),
      (∀ (j : Nat) t v, fn.params[j]? = some t → args[j]? = some v → Value.okWide C.prog W .any base t v) →
      DataW.Whole enc C.prog fn.params.toList s.vars apart W args.toList ds gs before →
      (DataW.weightsEach C.prog (fn.params.toList ++ s.plain.varTypes C.prog) (ds ++ gs)).all (· ≤ reachBytes) = true → X W args → W.ShapedOpen C.prog →
      Calls C.prog f args W fun e W' => ∃ v, e = .returned v ∧ s.post enc C.prog fn apart fresh handsOn again W args v W') :
    ReturnsInHanded a C os f .any (fun w args => (s.pre enc C.prog fn conds apart w args ∧ X w args) ∧ sizedMet enc C.prog fn (OpenSpec.ofChange s) apart w args) (s.post enc C.prog fn apart fresh handsOn again) := by
  refine returnsInHanded_of_calls hown started noInit witness ?_
  intro w tape i _ hsh _ hok hpre _
  obtain ⟨_, _, _, fn', hfn', _, _, _, _, hval⟩ := hok
  have e : fn' = fn := Option.some.inj (hfn'.symm.trans hfn)
  subst e
  obtain ⟨⟨⟨ds, gs, before, hw, _⟩, hx⟩, hz⟩ := hpre
  have hw' := DataW.Whole.of_heap (w' := w.forCall tape i) (by rfl) hw
  refine (contract (w.forCall tape i) w.heap.size i.args ds gs before hval hw' (hz.weights hw) (hX _ _ _ (by rfl) hx) hsh).mono fun e W' ⟨v, he, hp⟩ => ?_
  subst he
  exact ChangeSpec.post_blind hp

set_option maxRecDepth 100000 in
/-- a span by value, opened -/
theorem open_span {H : Type} {enc : TypeId × Value → H} {W : World} {b0 base : Nat} {sp : Nat → Bool} {held : Bool} {v : Value} {d : DataW H} {p : List MemPlace}
    (hv : Value.okWide Tryz.prog W .any b0 41 v) (h : DataW.Trod enc Tryz.prog W base sp held 41 v d p) :
    ∃ a b : Int, v = .agg #[.int .i64 a, .int .i64 b] ∧ (Lit.int .i64 a).wf = true ∧ (Lit.int .i64 b).wf = true := by
  obtain ⟨v0, v1, y0, y1, n, rfl, -, -, h0, h1⟩ := Joins.open_agg2 Tryz.underlying41 (by kernel_rfl) cellsSpan hv h
  obtain ⟨k0, e0, _, w0⟩ := DataW.trod_int Tryz.underlying2 h0
  obtain ⟨k1, e1, _, w1⟩ := DataW.trod_int Tryz.underlying2 h1
  simp only [List.cons.injEq, and_true] at e0 e1
  subst e0; subst e1
  exact ⟨k0, k1, rfl, w0, w1⟩
end Go.Proofs.YthbjhpfgfpkppaaGreatDoor
