/-
  A start that meets the seat's condition on the library's tables; the row's builder with the world's shape kept; an argument that is a slice of spans, opened.
-/
import Derived.Test.YthbjhpfgfpkppaaDoorRows
import Derived.Test.YthbjhpfgfpkppaaDoorTN
import Derived.WalkKit
import Derived.ProofKit
import Derived.LaidMore
import Derived.OpenShut
import Derived.HandedShaped
import Derived.Stop.Joined
import Derived.Stop.LaidErr
import Derived.Lib.LaidTab
import Derived.Lib.SmallJoins
import Derived.WalkSmall
import Derived.Deep.Slices
import Derived.Deep.Fields
namespace Go.Proofs.YthbjhpfgfpkppaaDoor
open Go Go.ChangeShapes Go.WideShapes Go.ChangeAt Go.WideMaps Go.WideElems Go.RowKit

theorem own : ownKnob Tryd.prog.godebug = Option.none := by kernel_rfl
theorem laidOut : laidOutB Tryd.prog = true := by kernel_rfl
theorem cellsSpan : Tryd.prog.cellsOf 31 = 2 := by kernel_rfl

/-- the door's own heap meets the condition -/
theorem door_met (os : Os) (args : Array Value) : laidMetH Tryd.prog Rows.topTellsRow.laid ((World.doorLaid Tryd.prog 400 os).forCall (fun _ _ => 0) ⟨#[], args, []⟩).memory := by
  rw [MakeChecks.laidMetH_plain _ _ _ (by kernel_rfl)]
  exact laidMet_of_run' 8 (by kernel_rfl) (by kernel_rfl)

/-- the builder of a row with listed variables -/
theorem lift_shaped {H : Type} {enc : TypeId × Value → H} {a : Assume} {C : Checked} {os : Os} {f : FuncId} {fn : Func} {s : ChangeSpec} {conds : List PathCond} {apart fresh handsOn again : Bool} {X : World → Array Value → Prop}
    (hX : ∀ (w w' : World) (args : Array Value), w.heap = w'.heap → X w args → X w' args)
    (hown : ownKnob C.prog.godebug = Option.none) (started : os.Started) (noInit : C.prog.inits.idxOf? f = Option.none) (hfn : C.prog.funcs[f]? = some fn)
    (witness : ∃ (w : World) (tape : Tape) (i : Input), w.os = os ∧ (w.forCall tape i).Shaped C.prog ∧ i.vars = [] ∧ Input.okWide C.prog (w.forCall tape i) .any w.heap.size f i ∧
      ((s.pre enc C.prog fn conds apart (w.forCall tape i).memory i.args ∧ X (w.forCall tape i).memory i.args) ∧ sizedMet enc C.prog fn (OpenSpec.ofChange s) apart (w.forCall tape i).memory i.args) ∧ a.holds C.prog (lone (Frame.enter C.prog f i.args .normal) [] (w.forCall tape i)))
    (contract : ∀ (W : World) (base : Nat) (args : Array Value) (ds gs : List (DataW H)) (before : List MemPlace),
      (∀ (j : Nat) t v, fn.params[j]? = some t → args[j]? = some v → Value.okWide C.prog W .any base t v) →
      DataW.Whole enc C.prog fn.params.toList s.vars apart W args.toList ds gs before →
      (DataW.weightsEach C.prog (fn.params.toList ++ s.plain.varTypes C.prog) (ds ++ gs)).all (· ≤ reachBytes) = true → X W args → W.ShapedOpen C.prog →
      Calls C.prog f args W fun e W' => ∃ v, e = .returned v ∧ s.post enc C.prog fn apart fresh handsOn again W args v W') :
    ReturnsInHanded a C os f .any (fun w args => (s.pre enc C.prog fn conds apart w args ∧ X w args) ∧ sizedMet enc C.prog fn (OpenSpec.ofChange s) apart w args) (s.post enc C.prog fn apart fresh handsOn again) := by
  refine returnsInHanded_of_calls hown started noInit witness ?_
  intro w tape i _ hsh _ hok hpre _
  obtain ⟨_, _, _, fn', hfn', _, _, _, _, hval⟩ := hok
  have e : fn' = fn := Option.some.inj (hfn'.symm.trans hfn)
  subst e
  obtain ⟨⟨⟨ds, gs, before, hw, _⟩, hx⟩, hz⟩ := hpre
  have hw' := DataW.Whole.of_heap (w' := w.forCall tape i) (by rfl) hw
  refine (contract (w.forCall tape i) w.heap.size i.args ds gs before hval hw' (hz.weights hw) (hX _ _ _ (by rfl) hx) hsh).mono fun e W' ⟨v, he, hp⟩ => ?_
  subst he
  exact ChangeSpec.post_blind hp

theorem wf_u8 {k : Int} (h : (Lit.int .u8 k).wf = true) : 0 ≤ k ∧ k < 256 := by
  have := h
  simp [Lit.wf, IntKind.min, IntKind.max, IntKind.bits, IntKind.signed] at this
  omega
theorem cellsPut : Tryd.prog.cellsOf 33 = 4 := by kernel_rfl
set_option maxRecDepth 100000 in
/-- a slice of puts that came in, opened -/
theorem open_puts {H : Type} {enc : TypeId × Value → H} {W : World} {b0 base : Nat} {sp : Nat → Bool} {held : Bool} {v : Value} {d : DataW H} {p : List MemPlace}
    (hv : Value.okWide Tryd.prog W .any b0 22 v) (h : DataW.Trod enc Tryd.prog W base sp held 22 v d p) :
    ∃ (A : Option Addr) (n c : Nat) (l : List Pt), v = .slice A n c ∧ l.length = n ∧ n ≤ maxLen ∧ PtAt W W.heap.size A l ∧ ∀ x ∈ l, 0 ≤ x.2.2.1 ∧ x.2.2.1 < 256 := by
  obtain ⟨a, n, c, rfl⟩ := okWide_slice Tryd.underlying22 hv
  obtain ⟨fuel, hf⟩ := h
  rcases Deep.open_slice Tryd.underlying22 hf with ⟨h0, _⟩ | ⟨ad, len, cap, m, n', D, Pl, hcs, hb, hl, hm, hmm, hx, hi⟩
  · have e : Value.slice a n c = .slice none 0 0 := by simpa [Value.cells] using h0
    injection e with e1 e2 e3
    subst e1; subst e2
    exact ⟨none, 0, c, [], rfl, rfl, Nat.zero_le _, fun h => absurd h (by simp), fun _ h => by cases h⟩
  · have e : Value.slice a n c = .slice (some ad) len cap := by simpa [Value.cells] using hcs
    injection e with e1 e2 e3
    subst e1; subst e2; subst e3
    have hlm : n ≤ m := by rw [hmm]; split <;> omega
    have hex : ∀ i, i < n → ∃ q : Pt, W.cell? (ad.add (i * 4)) = some (.int .i64 q.1) ∧ W.cell? ((ad.add (i * 4)).add 1) = some (.int .i64 q.2.1) ∧ W.cell? ((ad.add (i * 4)).add 2) = some (.int .u8 q.2.2.1) ∧ W.cell? ((ad.add (i * 4)).add 3) = some (.bool q.2.2.2) ∧ 0 ≤ q.2.2.1 ∧ q.2.2.1 < 256 := fun i hin => by
      obtain ⟨cs', hc, ht⟩ := hi i (by omega)
      rw [cellsPut] at hc
      obtain ⟨ys, k, _, _, hcl, hyl, hg⟩ := DataW.trod_struct Tryd.underlying33 ht
      obtain ⟨_, _, hat⟩ := World.cells?_some hc
      rw [cellsPut] at hcl
      match cs', hcl, hyl, hat, hg with
      | [u, v, x, z], _, hyl, hat, hg =>
        have hone : Tryd.prog.cellsOf 5 = 1 := by kernel_rfl
        have hone2 : Tryd.prog.cellsOf 2 = 1 := by kernel_rfl
        have honeb : Tryd.prog.cellsOf 4 = 1 := by kernel_rfl
        have h0 := hg 2 { name := "Drop", type := 4, offset := 3, embedded := false, tag := "", pkgPath := "", byteOffset := 17 } rfl
        have h1 := hg 0 { name := "S", type := 31, offset := 0, embedded := false, tag := "", pkgPath := "", byteOffset := 0 } rfl
        have h2 := hg 1 { name := "V", type := 5, offset := 2, embedded := false, tag := "", pkgPath := "", byteOffset := 16 } rfl
        dsimp only at h0 h1 h2
        rw [honeb] at h0
        rw [cellsSpan] at h1
        rw [hone] at h2
        have hys : ys.length = 3 := hyl
        rw [List.getElem?_eq_getElem (by omega)] at h0 h1 h2
        obtain ⟨k0, e0, _⟩ := DataW.trod_bool Tryd.underlying4 h0
        obtain ⟨k2, e2, _, wk2⟩ := DataW.trod_int Tryd.underlying5 h2
        obtain ⟨ys2, _, _, _, hcl2, hyl2, hg2⟩ := DataW.trod_struct Tryd.underlying31 h1
        have g0 := hg2 0 { name := "From", type := 2, offset := 0, embedded := false, tag := "", pkgPath := "", byteOffset := 0 } rfl
        have g1 := hg2 1 { name := "To", type := 2, offset := 1, embedded := false, tag := "", pkgPath := "", byteOffset := 8 } rfl
        dsimp only at g0 g1
        rw [hone2] at g0 g1
        have hys2 : ys2.length = 2 := hyl2
        rw [List.getElem?_eq_getElem (by omega)] at g0 g1
        obtain ⟨m0, d0, _, _⟩ := DataW.trod_int Tryd.underlying2 g0
        obtain ⟨m1, d1, _, _⟩ := DataW.trod_int Tryd.underlying2 g1
        have e0' : u = .int .i64 m0 := by simpa using d0
        have e1' : v = .int .i64 m1 := by simpa using d1
        have e2' : x = .int .u8 k2 := by simpa using e2
        have e3' : z = .bool k0 := by simpa using e0
        subst e0'; subst e1'; subst e2'; subst e3'
        have a0 := hat 0 (by simp)
        have a1 := hat 1 (by simp)
        have a2 := hat 2 (by simp)
        have a3 := hat 3 (by simp)
        have hb := wf_u8 wk2
        exact ⟨(m0, m1, k2, k0), by simpa [Addr.add] using a0, by simpa using a1, by simpa using a2, by simpa using a3, hb.1, hb.2⟩
    obtain ⟨f, hfs⟩ : ∃ f : Nat → Pt, ∀ i, i < n → W.cell? (ad.add (i * 4)) = some (.int .i64 (f i).1) ∧ W.cell? ((ad.add (i * 4)).add 1) = some (.int .i64 (f i).2.1) ∧ W.cell? ((ad.add (i * 4)).add 2) = some (.int .u8 (f i).2.2.1) ∧ W.cell? ((ad.add (i * 4)).add 3) = some (.bool (f i).2.2.2) ∧ 0 ≤ (f i).2.2.1 ∧ (f i).2.2.1 < 256 :=
      ⟨fun i => if h : i < n then Classical.choose (hex i h) else (0, 0, 0, false), fun i h => by simp only [h, dif_pos]; exact Classical.choose_spec (hex i h)⟩
    refine ⟨some ad, n, c, (List.range n).map f, rfl, by simp, by omega, fun hpos => ?_, fun x hx => by
      obtain ⟨i, hi, rfl⟩ := List.mem_map.1 hx
      have h := hfs i (List.mem_range.1 hi)
      exact ⟨h.2.2.2.2.1, h.2.2.2.2.2⟩⟩
    have hn0 : 0 < n := by simpa using hpos
    obtain ⟨b, o, spot⟩ := ad
    have hspot : spot = Option.none := by simpa [Addr.add] using World.cell?_spot (hfs 0 hn0).1
    subst hspot
    have hlt : b < W.heap.size := World.block_lt_of_cell? W ⟨b, o, Option.none⟩ (by have := (hfs 0 hn0).1; simpa [Addr.add] using this)
    refine ⟨b, o, rfl, hlt, fun j hj => ?_⟩
    have hj' : j < n := by simpa using hj
    obtain ⟨h1, h2, h3, h4, -, -⟩ := hfs j hj'
    rw [Addr.add_lit] at h1 h2 h3 h4
    rw [Addr.add_lit] at h2 h3 h4
    simpa using ⟨h1, h2, h3, h4⟩
end Go.Proofs.YthbjhpfgfpkppaaDoor
