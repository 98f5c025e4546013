/-
  Arguments opened; what the seat's ten listed variables give a walk; a start that meets the condition.
-/
import Derived.Test.YtomcoacndppkcaaGreatDoorRows
import Derived.Test.YtomcoacndppkcaaGreatDoorUC
import Derived.WalkKit
import Derived.ProofKit
import Derived.LaidMore
import Derived.OpenShut
import Derived.HandedShaped
import Derived.Stop.Joined
import Derived.Stop.LaidErr
import Derived.Lib.LaidTab
import Derived.Lib.SmallJoins
import Derived.WalkSmall
import Derived.Deep.Slices
import Derived.Deep.Fields
import Derived.SizedLaws
import Derived.Lay
import Derived.Test.YtomcoacndppkcaaGreatDoorWH
namespace Go.Proofs.YtomcoacndppkcaaGreatDoor
open Go Go.ChangeShapes Go.WideShapes Go.ChangeAt Go.WideMaps Go.WideElems Go.RowKit
open T (Tg TgAt Mx szM)

theorem own : ownKnob Tryz.prog.godebug = Option.none := by kernel_rfl
theorem laidOut : laidOutB Tryz.prog = true := by kernel_rfl
theorem cellsTag : Tryz.prog.cellsOf 27 = 2 := by kernel_rfl

/-- the builder of a row with listed variables -/
theorem lift_shaped {H : Type} {enc : TypeId × Value → H} {a : Assume} {C : Checked} {os : Os} {f : FuncId} {fn : Func} {s : ChangeSpec} {conds : List PathCond} {apart fresh handsOn again : Bool} {X : World → Array Value → Prop}
    (hX : ∀ (w w' : World) (args : Array Value), w.heap = w'.heap → X w args → X w' args)
    (hown : ownKnob C.prog.godebug = Option.none) (started : os.Started) (noInit : C.prog.inits.idxOf? f = Option.none) (hfn : C.prog.funcs[f]? = some fn)
    (witness : ∃ (w : World) (tape : Tape) (i : Input), w.os = os ∧ (w.forCall tape i).Shaped C.prog ∧ i.vars = [] ∧ Input.okWide C.prog (w.forCall tape i) .any w.heap.size f i ∧
      ((s.pre enc C.prog fn conds apart (w.forCall tape i).memory i.args ∧ X (w.forCall tape i).memory i.args) ∧ sizedMet enc C.prog fn (OpenSpec.ofChange s) apart (w.forCall tape i).memory i.args) ∧ a.holds C.prog (lone (Frame.enter C.prog f i.args .normal) [] (w.forCall tape i)))
    (contract : ∀ (W : World) (base : Nat) (args : Array Value) (ds gs : List (DataW H)) (before : List MemPlace),
      (∀ (j : Nat) t v, fn.params[j]? = some t → args[j]? = some v → Value.okWide C.prog W .any base t v) →
      DataW.Whole enc C.prog fn.params.toList s.vars apart W args.toList ds gs before →
      (DataW.weightsEach C.prog (fn.params.toList ++ s.plain.varTypes C.prog) (ds ++ gs)).all (· ≤ reachBytes) = true → X W args → W.ShapedOpen C.prog →
      Calls C.prog f args W fun e W' => ∃ v, e = .returned v ∧ s.post enc C.prog fn apart fresh handsOn again W args v W') :
    ReturnsInHanded a C os f .any (fun w args => (s.pre enc C.prog fn conds apart w args ∧ X w args) ∧ sizedMet enc C.prog fn (OpenSpec.ofChange s) apart w args) (s.post enc C.prog fn apart fresh handsOn again) := by
  refine returnsInHanded_of_calls hown started noInit witness ?_
  intro w tape i _ hsh _ hok hpre _
  obtain ⟨_, _, _, fn', hfn', _, _, _, _, hval⟩ := hok
  have e : fn' = fn := Option.some.inj (hfn'.symm.trans hfn)
  subst e
  obtain ⟨⟨⟨ds, gs, before, hw, _⟩, hx⟩, hz⟩ := hpre
  have hw' := DataW.Whole.of_heap (w' := w.forCall tape i) (by rfl) hw
  refine (contract (w.forCall tape i) w.heap.size i.args ds gs before hval hw' (hz.weights hw) (hX _ _ _ (by rfl) hx) hsh).mono fun e W' ⟨v, he, hp⟩ => ?_
  subst he
  exact ChangeSpec.post_blind hp


theorem reach_eq : reachBytes = szM := rfl
theorem weights_all {H : Type} {P : Program} {e : TypeId} : ∀ {l : List (DataW H)} {d : DataW H}, d ∈ l → ∀ n ∈ d.weights P e, n ∈ DataW.weightsAll P e l
  | d' :: r, d, hd, n, hn => by
    simp only [DataW.weightsAll, List.mem_append]
    rcases List.mem_cons.1 hd with rfl | h
    · exact Or.inl hn
    · exact Or.inr (weights_all h n hn)
/-- what an argument weighs -/
theorem weighs {H : Type} {P : Program} {ts : List TypeId} {ds : List (DataW H)} (h : (DataW.weightsEach P ts ds).all (· ≤ reachBytes) = true) {j : Nat} {t : TypeId} {d : DataW H} (ht : ts[j]? = some t) (hd : ds[j]? = some d) : ∀ n ∈ d.weights P t, n ≤ szM := fun n hn => by
  have := List.all_eq_true.1 h _ (DataW.weights_mem_each ht hd n hn)
  exact of_decide_eq_true this

set_option maxRecDepth 100000 in
/-- a tag by value, opened -/
theorem open_tag {H : Type} {enc : TypeId × Value → H} {W : World} {b0 base : Nat} {sp : Nat → Bool} {held : Bool} {v : Value} {d : DataW H} {p : List MemPlace}
    (hv : Value.okWide Tryz.prog W .any b0 27 v) (h : DataW.Trod enc Tryz.prog W base sp held 27 v d p) (hz : ∀ n ∈ d.weights Tryz.prog 27, n ≤ szM) :
    ∃ (s : ByteArray) (q : Bool), v = .agg #[.string s, .bool q] ∧ s.size ≤ szM := by
  obtain ⟨v0, v1, y0, y1, n, rfl, rfl, -, h0, h1⟩ := Joins.open_agg2 Tryz.underlying27 (by kernel_rfl) cellsTag hv h
  obtain ⟨k0, e0, x0, -⟩ := DataW.trod_string Tryz.underlying9 h0
  obtain ⟨k1, e1, x1⟩ := DataW.trod_bool Tryz.underlying4 h1
  simp only [List.cons.injEq, and_true] at e0 e1
  subst e0; subst e1
  refine ⟨k0, k1, rfl, ?_⟩
  have e : y0.1 = .lit (.string k0.data.toList) := by rw [x0]
  have := hz k0.data.toList.length (by
    simp only [DataW.weights, Tryz.underlying27]
    rw [e]
    simp [DataW.weightsEach, DataW.weights])
  rw [Lib.size_eq]; exact this

set_option maxRecDepth 100000 in
/-- a slice of tags in a cell, opened -/
theorem tags_at {H : Type} {enc : TypeId × Value → H} {W : World} {fuel base : Nat} {sp : Nat → Bool} {held : Bool} {v : Value} {d : DataW H} {p : List MemPlace}
    (hf : DataW.trod enc Tryz.prog W base sp held fuel 25 [v] = some (d, p)) (hz : ∀ n ∈ d.weights Tryz.prog 25, n ≤ szM) :
    ∃ (A : Option Addr) (n c : Nat) (l : List Tg), v = .slice A n c ∧ l.length = n ∧ n ≤ maxLen ∧ Mx l ∧ TgAt W W.heap.size A l := by
  obtain ⟨a, n, c, hv⟩ := Joins.slice_form Tryz.underlying25 hf
  obtain rfl : v = .slice a n c := by simpa using hv
  clear hv
  rcases Deep.open_slice Tryz.underlying25 hf with ⟨h0, _⟩ | ⟨ad, len, cap, m, n', D, Pl, hcs, hb, hl, hm, hmm, hx, hi⟩
  · have e : Value.slice a n c = .slice none 0 0 := by simpa using h0
    injection e with e1 e2 e3
    subst e1; subst e2
    exact ⟨none, 0, c, [], rfl, rfl, Nat.zero_le _, fun x hx => absurd hx (by simp), fun h => absurd h (by simp)⟩
  · have e : Value.slice a n c = .slice (some ad) len cap := by simpa using hcs
    injection e with e1 e2 e3
    subst e1; subst e2; subst e3
    have hlm : n ≤ m := by rw [hmm]; split <;> omega
    have hd : d = .slice ((List.range n).map D) ((List.range (m - n)).map fun j => D (n + j)) := congrArg Prod.fst hx
    have hex : ∀ i, i < n → ∃ q : Tg, W.cell? (ad.add (i * 2)) = some (.string q.1) ∧ W.cell? ((ad.add (i * 2)).add 1) = some (.bool q.2) ∧ q.1.size ≤ szM := fun i hin => by
      obtain ⟨cs', hc, ht⟩ := hi i (by omega)
      rw [cellsTag] at hc
      obtain ⟨ys, k, _, hxd, hcl, hyl, hg⟩ := DataW.trod_struct Tryz.underlying27 ht
      obtain ⟨_, _, hat⟩ := World.cells?_some hc
      rw [cellsTag] at hcl
      match cs', hcl, hyl, hat, hg with
      | [u, v], _, hyl, hat, hg =>
        have hone : Tryz.prog.cellsOf 9 = 1 := by kernel_rfl
        have hone2 : Tryz.prog.cellsOf 4 = 1 := by kernel_rfl
        have h0 := hg 0 { name := "Text", type := 9, offset := 0, embedded := false, tag := "", pkgPath := "", byteOffset := 0 } rfl
        have h1 := hg 1 { name := "Weak", type := 4, offset := 1, embedded := false, tag := "", pkgPath := "", byteOffset := 16 } rfl
        dsimp only at h0 h1
        rw [hone] at h0
        rw [hone2] at h1
        have hys : ys.length = 2 := hyl
        obtain ⟨y0, y1, hyy⟩ : ∃ y0 y1, ys = [y0, y1] := by
          clear h0 h1 hg hxd hyl
          match ys, hys with
          | [a, b], _ => exact ⟨a, b, rfl⟩
        subst hyy
        rw [List.getElem?_eq_getElem (by simp)] at h0 h1
        obtain ⟨k0, e0, x0, _⟩ := DataW.trod_string Tryz.underlying9 h0
        obtain ⟨k1, e1, x1⟩ := DataW.trod_bool Tryz.underlying4 h1
        have e0' : u = .string k0 := by simpa using e0
        have e1' : v = .bool k1 := by simpa using e1
        subst e0'; subst e1'
        have a0 := hat 0 (by simp)
        have a1 := hat 1 (by simp)
        refine ⟨(k0, k1), by simpa [Addr.add] using a0, by simpa using a1, ?_⟩
        have hDi : D i = .agg [y0.1, y1.1] := congrArg Prod.fst hxd
        · have e : y0.1 = .lit (.string k0.data.toList) := by
            have : y0 = _ := x0
            rw [this]
          have hw : k0.data.toList.length ∈ (D i).weights Tryz.prog 27 := by
            rw [hDi]
            simp only [DataW.weights, Tryz.underlying27]
            rw [e]
            simp [DataW.weightsEach, DataW.weights]
          have := hz _ (by
            rw [hd]
            simp only [DataW.weights, Tryz.underlying25, List.mem_cons, List.mem_append]
            exact Or.inr (Or.inl (weights_all (List.mem_map.2 ⟨i, by simpa using hin, rfl⟩) _ hw)))
          show k0.size ≤ szM
          rw [Lib.size_eq]; exact this
    obtain ⟨f, hfs⟩ : ∃ f : Nat → Tg, ∀ i, i < n → W.cell? (ad.add (i * 2)) = some (.string (f i).1) ∧ W.cell? ((ad.add (i * 2)).add 1) = some (.bool (f i).2) ∧ (f i).1.size ≤ szM :=
      ⟨fun i => if h : i < n then Classical.choose (hex i h) else (⟨#[]⟩, false), fun i h => by simp only [h, dif_pos]; exact Classical.choose_spec (hex i h)⟩
    refine ⟨some ad, n, c, (List.range n).map f, rfl, by simp, by omega, fun x hx => ?_, fun hpos => ?_⟩
    · obtain ⟨i, hi, rfl⟩ := List.mem_map.1 hx
      exact (hfs i (by simpa using hi)).2.2
    have hn0 : 0 < n := by simpa using hpos
    obtain ⟨b, o, spot⟩ := ad
    have hspot : spot = Option.none := by simpa [Addr.add] using World.cell?_spot (hfs 0 hn0).1
    subst hspot
    have hlt : b < W.heap.size := World.block_lt_of_cell? W ⟨b, o, Option.none⟩ (by have := (hfs 0 hn0).1; simpa [Addr.add] using this)
    refine ⟨b, o, rfl, hlt, fun j hj => ?_⟩
    have hj' : j < n := by simpa using hj
    obtain ⟨h1, h2, -⟩ := hfs j hj'
    rw [Addr.add_lit] at h1 h2
    rw [Addr.add_lit] at h2
    simpa using ⟨h1, h2⟩

theorem cellsCond : Tryz.prog.cellsOf 29 = 8 := by kernel_rfl
theorem cellsReq : Tryz.prog.cellsOf 49 = 11 := by kernel_rfl
theorem cellsMeta : Tryz.prog.cellsOf 45 = 11 := by kernel_rfl
theorem cellsTags : Tryz.prog.cellsOf 25 = 1 := by kernel_rfl
theorem cellsSpecs : Tryz.prog.cellsOf 47 = 1 := by kernel_rfl
theorem cellsTexts : Tryz.prog.cellsOf 43 = 1 := by kernel_rfl
theorem cellsStr1 : Tryz.prog.cellsOf 9 = 1 := by kernel_rfl
theorem cellsBool1 : Tryz.prog.cellsOf 4 = 1 := by kernel_rfl
theorem cellsI64 : Tryz.prog.cellsOf 2 = 1 := by kernel_rfl
theorem list2 {α : Type} {l : List α} (h : l.length = 2) : ∃ c0 c1, l = [c0, c1] := by
  match l, h with
  | [c0, c1], _ => exact ⟨c0, c1, rfl⟩
theorem list4 {α : Type} {l : List α} (h : l.length = 4) : ∃ c0 c1 c2 c3, l = [c0, c1, c2, c3] := by
  match l, h with
  | [c0, c1, c2, c3], _ => exact ⟨c0, c1, c2, c3, rfl⟩
theorem list7 {α : Type} {l : List α} (h : l.length = 7) : ∃ c0 c1 c2 c3 c4 c5 c6, l = [c0, c1, c2, c3, c4, c5, c6] := by
  match l, h with
  | [c0, c1, c2, c3, c4, c5, c6], _ => exact ⟨c0, c1, c2, c3, c4, c5, c6, rfl⟩
theorem list8 {α : Type} {l : List α} (h : l.length = 8) : ∃ c0 c1 c2 c3 c4 c5 c6 c7, l = [c0, c1, c2, c3, c4, c5, c6, c7] := by
  match l, h with
  | [c0, c1, c2, c3, c4, c5, c6, c7], _ => exact ⟨c0, c1, c2, c3, c4, c5, c6, c7, rfl⟩
theorem list9 {α : Type} {l : List α} (h : l.length = 9) : ∃ c0 c1 c2 c3 c4 c5 c6 c7 c8, l = [c0, c1, c2, c3, c4, c5, c6, c7, c8] := by
  match l, h with
  | [c0, c1, c2, c3, c4, c5, c6, c7, c8], _ => exact ⟨c0, c1, c2, c3, c4, c5, c6, c7, c8, rfl⟩
theorem list10 {α : Type} {l : List α} (h : l.length = 10) : ∃ c0 c1 c2 c3 c4 c5 c6 c7 c8 c9, l = [c0, c1, c2, c3, c4, c5, c6, c7, c8, c9] := by
  match l, h with
  | [c0, c1, c2, c3, c4, c5, c6, c7, c8, c9], _ => exact ⟨c0, c1, c2, c3, c4, c5, c6, c7, c8, c9, rfl⟩
theorem list11 {α : Type} {l : List α} (h : l.length = 11) : ∃ c0 c1 c2 c3 c4 c5 c6 c7 c8 c9 c10, l = [c0, c1, c2, c3, c4, c5, c6, c7, c8, c9, c10] := by
  match l, h with
  | [c0, c1, c2, c3, c4, c5, c6, c7, c8, c9, c10], _ => exact ⟨c0, c1, c2, c3, c4, c5, c6, c7, c8, c9, c10, rfl⟩

/-- a field's weights are the struct's -/
theorem field_weighs {H : Type} {P : Program} {t : TypeId} {fs : Array Field} {ds : List (DataW H)} (ht : P.underlying t = some (.struct fs)) (hz : ∀ n ∈ (DataW.agg ds).weights P t, n ≤ szM) {j : Nat} {f : Field} {d : DataW H} (hf : (fs.toList.map (·.type))[j]? = some f.type) (hd : ds[j]? = some d) : ∀ n ∈ d.weights P f.type, n ≤ szM := fun n hn => by
  refine hz n ?_
  simp only [DataW.weights, ht]
  exact DataW.weights_mem_each hf hd n hn
set_option maxRecDepth 100000 in
/-- a tag in two cells, opened -/
theorem tag_at {H : Type} {enc : TypeId × Value → H} {W : World} {fuel base : Nat} {sp : Nat → Bool} {held : Bool} {v u : Value} {d : DataW H} {p : List MemPlace}
    (h : DataW.trod enc Tryz.prog W base sp held fuel 27 [v, u] = some (d, p)) (hz : ∀ n ∈ d.weights Tryz.prog 27, n ≤ szM) :
    ∃ (s : ByteArray) (q : Bool), v = .string s ∧ u = .bool q ∧ s.size ≤ szM := by
  obtain ⟨ys, k, _, hxd, hcl, hyl, hg⟩ := DataW.trod_struct Tryz.underlying27 h
  obtain ⟨y0, y1, rfl⟩ := list2 hyl
  have h0 := hg 0 { name := "Text", type := 9, offset := 0, embedded := false, tag := "", pkgPath := "", byteOffset := 0 } rfl
  have h1 := hg 1 { name := "Weak", type := 4, offset := 1, embedded := false, tag := "", pkgPath := "", byteOffset := 16 } rfl
  dsimp only at h0 h1
  rw [cellsStr1] at h0
  rw [cellsBool1] at h1
  rw [List.getElem?_eq_getElem (by simp)] at h0 h1
  obtain ⟨k0, e0, x0, _⟩ := DataW.trod_string Tryz.underlying9 h0
  obtain ⟨k1, e1, x1⟩ := DataW.trod_bool Tryz.underlying4 h1
  have e0' : v = .string k0 := by simpa using e0
  have e1' : u = .bool k1 := by simpa using e1
  subst e0'; subst e1'
  refine ⟨k0, k1, rfl, rfl, ?_⟩
  have hd : d = .agg [y0.1, y1.1] := congrArg Prod.fst hxd
  subst hd
  have e : y0.1 = .lit (.string k0.data.toList) := by
    have : y0 = _ := x0
    rw [this]
  have := hz k0.data.toList.length (by
    simp only [DataW.weights, Tryz.underlying27]
    rw [e]
    simp [DataW.weightsEach, DataW.weights])
  rw [Lib.size_eq]; exact this
set_option maxRecDepth 100000 in
/-- conditions in eight cells, opened -/
theorem cond_at {H : Type} {enc : TypeId × Value → H} {W : World} {fuel base : Nat} {sp : Nat → Bool} {held : Bool} {cs : List Value} {d : DataW H} {p : List MemPlace}
    (h : DataW.trod enc Tryz.prog W base sp held fuel 29 cs = some (d, p)) (hz : ∀ n ∈ d.weights Tryz.prog 29, n ≤ szM) :
    ∃ (A B : Option Addr) (n c m e : Nat) (am an : Bool) (s u : Int) (rt : ByteArray) (rw : Bool) (l1 l2 : List Tg), cs = [.slice A n c, .slice B m e, .bool am, .bool an, .int .i64 s, .int .i64 u, .string rt, .bool rw] ∧ TwoArg W A B n m l1 l2 ∧ rt.size ≤ szM ∧ (Lit.int .i64 s).wf = true ∧ (Lit.int .i64 u).wf = true := by
  obtain ⟨ys, k, _, hxd, hcl, hyl, hg⟩ := DataW.trod_struct Tryz.underlying29 h
  obtain ⟨y0, y1, y2, y3, y4, y5, y6, rfl⟩ := list7 hyl
  rw [cellsCond] at hcl
  obtain ⟨c0, c1, c2, c3, c4, c5, c6, c7, rfl⟩ := list8 hcl
  have hd : d = .agg [y0.1, y1.1, y2.1, y3.1, y4.1, y5.1, y6.1] := congrArg Prod.fst hxd
  subst hd
  have h0 := hg 0 { name := "Match", type := 25, offset := 0, embedded := false, tag := "", pkgPath := "", byteOffset := 0 } rfl
  have h1 := hg 1 { name := "None", type := 25, offset := 1, embedded := false, tag := "", pkgPath := "", byteOffset := 24 } rfl
  have h2 := hg 2 { name := "AnyMatch", type := 4, offset := 2, embedded := false, tag := "", pkgPath := "", byteOffset := 48 } rfl
  have h3 := hg 3 { name := "AnyNone", type := 4, offset := 3, embedded := false, tag := "", pkgPath := "", byteOffset := 49 } rfl
  have h4 := hg 4 { name := "Since", type := 2, offset := 4, embedded := false, tag := "", pkgPath := "", byteOffset := 56 } rfl
  have h5 := hg 5 { name := "Unless", type := 2, offset := 5, embedded := false, tag := "", pkgPath := "", byteOffset := 64 } rfl
  have h6 := hg 6 { name := "Range", type := 27, offset := 6, embedded := false, tag := "", pkgPath := "", byteOffset := 72 } rfl
  dsimp only at h0 h1 h2 h3 h4 h5 h6
  rw [cellsTags] at h0 h1
  rw [cellsBool1] at h2 h3
  rw [cellsI64] at h4 h5
  rw [cellsTag] at h6
  rw [List.getElem?_eq_getElem (by simp)] at h0 h1 h2 h3 h4 h5 h6
  obtain ⟨A, n, c, l1, e0, n1, m1, M1, s1⟩ := tags_at (v := c0) (d := y0.1) (p := y0.2) h0 (field_weighs (j := 0) Tryz.underlying29 hz (f := ⟨"", 25, 0, false, "", "", 0⟩) rfl rfl)
  obtain ⟨B, m, e, l2, e1, n2, m2, M2, s2⟩ := tags_at (v := c1) (d := y1.1) (p := y1.2) h1 (field_weighs (j := 1) Tryz.underlying29 hz (f := ⟨"", 25, 0, false, "", "", 0⟩) rfl rfl)
  obtain ⟨am, e2, -⟩ := DataW.trod_bool Tryz.underlying4 h2
  obtain ⟨an, e3, -⟩ := DataW.trod_bool Tryz.underlying4 h3
  obtain ⟨s, e4, -, w4⟩ := DataW.trod_int Tryz.underlying2 h4
  obtain ⟨u, e5, -, w5⟩ := DataW.trod_int Tryz.underlying2 h5
  obtain ⟨rt, rw, e6, e7, z6⟩ := tag_at (v := c6) (u := c7) (d := y6.1) (p := y6.2) h6 (field_weighs (j := 6) Tryz.underlying29 hz (f := ⟨"", 27, 0, false, "", "", 0⟩) rfl rfl)
  have e2' : c2 = .bool am := by simpa using e2
  have e3' : c3 = .bool an := by simpa using e3
  have e4' : c4 = .int .i64 s := by simpa using e4
  have e5' : c5 = .int .i64 u := by simpa using e5
  subst e0; subst e1; subst e2'; subst e3'; subst e4'; subst e5'; subst e6; subst e7
  exact ⟨A, B, n, c, m, e, am, an, s, u, rt, rw, l1, l2, rfl, ⟨n1, m1, M1, s1, n2, m2, M2, s2⟩, z6, w4, w5⟩
set_option maxRecDepth 100000 in
/-- conditions by value, opened -/
theorem open_cond {H : Type} {enc : TypeId × Value → H} {W : World} {b0 base : Nat} {sp : Nat → Bool} {held : Bool} {v : Value} {d : DataW H} {p : List MemPlace}
    (hv : Value.okWide Tryz.prog W .any b0 29 v) (h : DataW.Trod enc Tryz.prog W base sp held 29 v d p) (hz : ∀ n ∈ d.weights Tryz.prog 29, n ≤ szM) :
    ∃ (A B : Option Addr) (n c m e : Nat) (am an : Bool) (s u : Int) (rt : ByteArray) (rw : Bool) (l1 l2 : List Tg), v = cdV A B n c m e am an s u rt rw ∧ TwoArg W A B n m l1 l2 ∧ rt.size ≤ szM ∧ (Lit.int .i64 s).wf = true ∧ (Lit.int .i64 u).wf = true := by
  obtain ⟨cs, rfl, hsz⟩ := okWide_struct Tryz.underlying29 hv
  obtain ⟨fuel, hf⟩ := h
  obtain ⟨A, B, n, c, m, e, am, an, s, u, rt, rw, l1, l2, hcs, r⟩ := cond_at hf hz
  refine ⟨A, B, n, c, m, e, am, an, s, u, rt, rw, l1, l2, ?_, r⟩
  exact congrArg Value.agg (Array.toList_inj.1 hcs)
set_option maxRecDepth 100000 in
/-- a request by value, opened -/
theorem open_request {H : Type} {enc : TypeId × Value → H} {W : World} {b0 base : Nat} {sp : Nat → Bool} {held : Bool} {v : Value} {d : DataW H} {p : List MemPlace}
    (hv : Value.okWide Tryz.prog W .any b0 49 v) (h : DataW.Trod enc Tryz.prog W base sp held 49 v d p) (hz : ∀ n ∈ d.weights Tryz.prog 49, n ≤ szM) :
    ∃ (hd : Bool) (ob : ByteArray) (S : Option Addr) (ns sc : Nat) (A B : Option Addr) (n c m e : Nat) (am an : Bool) (s u : Int) (rt : ByteArray) (rw : Bool) (l1 l2 : List Tg), v = rqV hd ob S ns sc A B n c m e am an s u rt rw ∧ TwoArg W A B n m l1 l2 ∧ rt.size ≤ szM := by
  obtain ⟨cs, rfl, hsz⟩ := okWide_struct Tryz.underlying49 hv
  obtain ⟨fuel, hf⟩ := h
  obtain ⟨ys, k, _, hxd, hcl, hyl, hg⟩ := DataW.trod_struct Tryz.underlying49 hf
  obtain ⟨y0, y1, y2, y3, rfl⟩ := list4 hyl
  have hd : d = .agg [y0.1, y1.1, y2.1, y3.1] := congrArg Prod.fst hxd
  subst hd
  obtain ⟨cs⟩ := cs
  rw [cellsReq] at hsz
  obtain ⟨c0, c1, c2, c3, c4, c5, c6, c7, c8, c9, c10, rfl⟩ := list11 hsz
  have h0 := hg 0 { name := "Head", type := 4, offset := 0, embedded := false, tag := "", pkgPath := "", byteOffset := 0 } rfl
  have h1 := hg 1 { name := "Object", type := 9, offset := 1, embedded := false, tag := "", pkgPath := "", byteOffset := 8 } rfl
  have h2 := hg 2 { name := "Specs", type := 47, offset := 2, embedded := false, tag := "", pkgPath := "", byteOffset := 24 } rfl
  have h3 := hg 3 { name := "Cond", type := 29, offset := 3, embedded := false, tag := "", pkgPath := "", byteOffset := 48 } rfl
  dsimp only [Value.cells] at h0 h1 h2 h3
  rw [cellsBool1] at h0
  rw [cellsStr1] at h1
  rw [cellsSpecs] at h2
  rw [cellsCond] at h3
  rw [List.getElem?_eq_getElem (by simp)] at h0 h1 h2 h3
  obtain ⟨q, e0, -⟩ := DataW.trod_bool Tryz.underlying4 h0
  obtain ⟨ob, e1, -⟩ := DataW.trod_string Tryz.underlying9 h1
  obtain ⟨S, ns, sc, e2⟩ := Joins.slice_form Tryz.underlying47 h2
  obtain ⟨A, B, n, c, m, e, am, an, s, u, rt, rw, l1, l2, e3, r1, r2, -⟩ := cond_at (d := y3.1) (p := y3.2) h3 (field_weighs (j := 3) Tryz.underlying49 hz (f := ⟨"", 29, 0, false, "", "", 0⟩) rfl rfl)
  have e0' : c0 = .bool q := by simpa using e0
  have e1' : c1 = .string ob := by simpa using e1
  have e2' : c2 = .slice S ns sc := by simpa using e2
  have e3' : [c3, c4, c5, c6, c7, c8, c9, c10] = _ := e3
  simp only [List.cons.injEq, and_true] at e3'
  obtain ⟨rfl, rfl, rfl, rfl, rfl, rfl, rfl, rfl⟩ := e3'
  subst e0'; subst e1'; subst e2'
  exact ⟨q, ob, S, ns, sc, A, B, n, c, m, e, am, an, s, u, rt, rw, l1, l2, rfl, r1, r2⟩
set_option maxRecDepth 100000 in
/-- a version by value, opened -/
theorem open_meta {H : Type} {enc : TypeId × Value → H} {W : World} {b0 base : Nat} {sp : Nat → Bool} {held : Bool} {v : Value} {d : DataW H} {p : List MemPlace}
    (hv : Value.okWide Tryz.prog W .any b0 45 v) (h : DataW.Trod enc Tryz.prog W base sp held 45 v d p) (hz : ∀ n ∈ d.weights Tryz.prog 45, n ≤ szM) :
    ∃ (tt : ByteArray) (tw : Bool) (md ln hv f1 f2 f3 : Int) (K : Option Addr) (kn kc : Nat) (tn : ByteArray) (kp : Bool), v = mdV tt tw md ln hv f1 f2 f3 K kn kc tn kp ∧ tt.size ≤ szM := by
  obtain ⟨cs, rfl, hsz⟩ := okWide_struct Tryz.underlying45 hv
  obtain ⟨fuel, hf⟩ := h
  obtain ⟨ys, k, _, hxd, hcl, hyl, hg⟩ := DataW.trod_struct Tryz.underlying45 hf
  obtain ⟨y0, y1, y2, y3, y4, y5, y6, y7, y8, y9, rfl⟩ := list10 hyl
  have hd : d = .agg [y0.1, y1.1, y2.1, y3.1, y4.1, y5.1, y6.1, y7.1, y8.1, y9.1] := congrArg Prod.fst hxd
  subst hd
  obtain ⟨cs⟩ := cs
  rw [cellsMeta] at hsz
  obtain ⟨c0, c1, c2, c3, c4, c5, c6, c7, c8, c9, c10, rfl⟩ := list11 hsz
  have h0 := hg 0 { name := "Tag", type := 27, offset := 0, embedded := false, tag := "", pkgPath := "", byteOffset := 0 } rfl
  have h1 := hg 1 { name := "Modified", type := 2, offset := 2, embedded := false, tag := "", pkgPath := "", byteOffset := 24 } rfl
  have h2 := hg 2 { name := "Length", type := 2, offset := 3, embedded := false, tag := "", pkgPath := "", byteOffset := 32 } rfl
  have h3 := hg 3 { name := "Have", type := 2, offset := 4, embedded := false, tag := "", pkgPath := "", byteOffset := 40 } rfl
  have h4 := hg 4 { name := "Fresh", type := 2, offset := 5, embedded := false, tag := "", pkgPath := "", byteOffset := 48 } rfl
  have h5 := hg 5 { name := "While", type := 2, offset := 6, embedded := false, tag := "", pkgPath := "", byteOffset := 56 } rfl
  have h6 := hg 6 { name := "Error", type := 2, offset := 7, embedded := false, tag := "", pkgPath := "", byteOffset := 64 } rfl
  have h7 := hg 7 { name := "Keys", type := 43, offset := 8, embedded := false, tag := "", pkgPath := "", byteOffset := 72 } rfl
  have h8 := hg 8 { name := "Tenant", type := 9, offset := 9, embedded := false, tag := "", pkgPath := "", byteOffset := 96 } rfl
  have h9 := hg 9 { name := "Keep", type := 4, offset := 10, embedded := false, tag := "", pkgPath := "", byteOffset := 112 } rfl
  dsimp only [Value.cells] at h0 h1 h2 h3 h4 h5 h6 h7 h8 h9
  rw [cellsTag] at h0
  rw [cellsI64] at h1 h2 h3 h4 h5 h6
  rw [cellsTexts] at h7
  rw [cellsStr1] at h8
  rw [cellsBool1] at h9
  rw [List.getElem?_eq_getElem (by simp)] at h0 h1 h2 h3 h4 h5 h6 h7 h8 h9
  obtain ⟨tt, tw, rfl, rfl, z0⟩ := tag_at (v := c0) (u := c1) (d := y0.1) (p := y0.2) h0 (field_weighs (j := 0) Tryz.underlying45 hz (f := ⟨"", 27, 0, false, "", "", 0⟩) rfl rfl)
  obtain ⟨i1, e1, -⟩ := DataW.trod_int Tryz.underlying2 h1
  obtain ⟨i2, e2, -⟩ := DataW.trod_int Tryz.underlying2 h2
  obtain ⟨i3, e3, -⟩ := DataW.trod_int Tryz.underlying2 h3
  obtain ⟨i4, e4, -⟩ := DataW.trod_int Tryz.underlying2 h4
  obtain ⟨i5, e5, -⟩ := DataW.trod_int Tryz.underlying2 h5
  obtain ⟨i6, e6, -⟩ := DataW.trod_int Tryz.underlying2 h6
  obtain ⟨K, kn, kc, e7⟩ := Joins.slice_form Tryz.underlying43 h7
  obtain ⟨tn, e8, -⟩ := DataW.trod_string Tryz.underlying9 h8
  obtain ⟨kp, e9, -⟩ := DataW.trod_bool Tryz.underlying4 h9
  obtain rfl : c2 = .int .i64 i1 := by simpa using e1
  obtain rfl : c3 = .int .i64 i2 := by simpa using e2
  obtain rfl : c4 = .int .i64 i3 := by simpa using e3
  obtain rfl : c5 = .int .i64 i4 := by simpa using e4
  obtain rfl : c6 = .int .i64 i5 := by simpa using e5
  obtain rfl : c7 = .int .i64 i6 := by simpa using e6
  obtain rfl : c8 = .slice K kn kc := by simpa using e7
  obtain rfl : c9 = .string tn := by simpa using e8
  obtain rfl : c10 = .bool kp := by simpa using e9
  exact ⟨tt, tw, i1, i2, i3, i4, i5, i6, K, kn, kc, tn, kp, rfl, z0⟩
end Go.Proofs.YtomcoacndppkcaaGreatDoor

namespace Go.Proofs.YtomcoacndppkcaaGreatDoor
open Go Go.ChangeShapes Go.WideShapes Go.ChangeAt Go.WideMaps Go.WideElems Go.RowKit
open T (szM)

theorem start_shaped (os : Os) (args : Array Value) : ((World.laidAll Tryz.prog os Rows.condParsesRow.laid).forCall (fun _ _ => 0) ⟨#[], args, []⟩).Shaped Tryz.prog :=
  World.shaped_of_ZipB (by kernel_rfl) (by kernel_rfl)
theorem start_met (os : Os) (args : Array Value) : laidMetH Tryz.prog Rows.condParsesRow.laid ((World.laidAll Tryz.prog os Rows.condParsesRow.laid).forCall (fun _ _ => 0) ⟨#[], args, []⟩).memory := by
  rw [MakeChecks.laidMetH_plain _ _ _ (by kernel_rfl)]
  exact laidMet_laidAll _ (by kernel_rfl) (by kernel_rfl)
theorem cellsFd : Tryz.prog.cellsOf 40 = 2 := by kernel_rfl

/-- an array of texts that reads as a table holds its texts -/
theorem cells_of_stab {H : Type} {enc : TypeId × Value → H} {P : Program} {w : World} {base : Nat} {sp : Nat → Bool} {held : Bool} {fuel : Nat} {t e : TypeId} {n : Nat} {cs : List Value} {zs : List (List UInt8)} {p : List MemPlace}
    (ht : P.underlying t = some (.array n e)) (he : P.underlying e = some .string) (hce : P.cellsOf e = 1) (hct : P.cellsOf t = n)
    (h : DataW.trod enc P w base sp held fuel t cs = some (.agg (zs.map fun z => .lit (.string z)), p)) : cs = zs.map fun z => Value.string ⟨z.toArray⟩ := by
  cases fuel with
  | zero => simp [DataW.trod] at h
  | succ fuel =>
    simp only [DataW.trod, ht, hce, hct, Nat.mul_one] at h
    split at h
    · rename_i hl
      obtain ⟨xs, hm, hx⟩ := Option.map_eq_some_iff.1 h
      have hxs : xs.map (·.1) = zs.map fun z => (DataW.lit (.string z) : DataW H) := by
        have := congrArg Prod.fst hx
        simpa using this
      have hxl : xs.length = n := by simpa using Lib.mapM_length hm
      have hzl : zs.length = n := by
        have := congrArg List.length hxs
        simp at this
        omega
      apply List.ext_getElem?
      intro i
      by_cases hi : i < n
      · obtain ⟨b, hb, hf⟩ := Lib.mapM_at hm i i (by simp [hi])
        obtain ⟨z, hc, rfl, _⟩ := DataW.trod_string he hf
        have h1 : cs[i]? = some (.string z) := by
          have := congrArg (·[0]?) hc
          simpa [List.getElem?_take, List.getElem?_drop] using this
        have h2 : (xs.map (·.1))[i]? = some (DataW.lit (.string z.data.toList) : DataW H) := by simp [hb]
        rw [hxs] at h2
        simp only [List.getElem?_map, Option.map_eq_some_iff, DataW.lit.injEq, Lit.string.injEq] at h2
        obtain ⟨z', hz', rfl⟩ := h2
        simp [h1, hz']
      · rw [List.getElem?_eq_none (by omega), List.getElem?_eq_none (by simp; omega)]
    · cases h
theorem stab_of_head {P : Program} {W : World} {name : String} {zs : List (List UInt8)} {rest : List (String × DataW Unit)} {g : Nat} {t e : TypeId} {n : Nat}
    (hg : P.globalNamed name = some g) (hty : (P.globals[g]?).map (·.type) = some t) (ht : P.underlying t = some (.array n e)) (he : P.underlying e = some .string) (hce : P.cellsOf e = 1) (hct : P.cellsOf t = n)
    (h : laidMet P ((name, .agg (zs.map fun z => .lit (.string z))) :: rest) W) : W.var? P name = some (zs.map fun z => Value.string ⟨z.toArray⟩).toArray := by
  obtain ⟨ps, ⟨g', t', cs, fuel, p, q, hg', ht', hvar, hd, _, _⟩, _⟩ := h
  obtain rfl := Option.some.inj (hg.symm.trans hg')
  obtain rfl := Option.some.inj (hty.symm.trans ht')
  rw [hvar, ← cells_of_stab ht he hce hct hd]
theorem lt_of_var {P : Program} {w : World} {n : String} {g : Nat} {cs : Array Value} (hg : P.globalNamed n = some g) (h : w.var? P n = some cs) : g < w.heap.size := by
  unfold World.var? at h
  rw [hg] at h
  rcases Nat.lt_or_ge g w.heap.size with h' | h'
  · exact h'
  · simp only [Option.bind_some, Array.getElem?_eq_none h'] at h
    cases h

theorem gES : Tryz.prog.globalNamed "strconv.ErrSyntax" = some 6 := by kernel_rfl
theorem gWk : Tryz.prog.globalNamed "mandoline/date.weekNames" = some 0 := by kernel_rfl
theorem gMo : Tryz.prog.globalNamed "mandoline/date.monthNames" = some 1 := by kernel_rfl
theorem gMd : Tryz.prog.globalNamed "mandoline/date.monthDays" = some 2 := by kernel_rfl
theorem gTabType : (Tryz.prog.globals[8]?).map (·.type) = some 174 := by kernel_rfl
theorem gESType : (Tryz.prog.globals[6]?).map (·.type) = some 107 := by kernel_rfl
theorem gWkType : (Tryz.prog.globals[0]?).map (·.type) = some 86 := by kernel_rfl
theorem gMoType : (Tryz.prog.globals[1]?).map (·.type) = some 88 := by kernel_rfl
theorem gMdType : (Tryz.prog.globals[2]?).map (·.type) = some 131 := by kernel_rfl
theorem cellsTab : Tryz.prog.cellsOf 174 = 20 := by kernel_rfl
theorem cellsWk : Tryz.prog.cellsOf 86 = 7 := by kernel_rfl
theorem cellsMo : Tryz.prog.cellsOf 88 = 12 := by kernel_rfl
theorem cellsMd : Tryz.prog.cellsOf 131 = 12 := by kernel_rfl
theorem cellsU64 : Tryz.prog.cellsOf 146 = 1 := by kernel_rfl
theorem cellsInt : Tryz.prog.cellsOf 3 = 1 := by kernel_rfl
theorem cellsES : Tryz.prog.cellsOf 179 = 1 := by kernel_rfl
theorem cellsStr : Tryz.prog.cellsOf 9 = 1 := by kernel_rfl
theorem starES : "*" ++ "errors.errorString" = "*errors.errorString" := by decide
theorem rowES (u : TypeId) (h : Tryz.prog.typeName? 3 u = some "*errors.errorString") : u = 177 :=
  typeName_ptr_named (nm := "errors.errorString") (by rw [starES]; kernel_rfl) (by kernel_rfl) (by decide) u (by rw [starES]; exact h)

def wkL : List (List UInt8) := [[83, 117, 110], [77, 111, 110], [84, 117, 101], [87, 101, 100], [84, 104, 117], [70, 114, 105], [83, 97, 116]]
def moL : List (List UInt8) := [[74, 97, 110], [70, 101, 98], [77, 97, 114], [65, 112, 114], [77, 97, 121], [74, 117, 110], [74, 117, 108], [65, 117, 103], [83, 101, 112], [79, 99, 116], [78, 111, 118], [68, 101, 99]]
theorem wkL_at : ∀ k : Nat, k < 7 → (wkL.map fun z => Value.string ⟨z.toArray⟩).toArray[k]? = some (.string (D.wkB k)) := by
  intro k hk
  have : k = 0 ∨ k = 1 ∨ k = 2 ∨ k = 3 ∨ k = 4 ∨ k = 5 ∨ k = 6 := by omega
  rcases this with rfl | rfl | rfl | rfl | rfl | rfl | rfl <;> (show _ = _; kernel_rfl)
theorem moL_at : ∀ k : Nat, k < 12 → (moL.map fun z => Value.string ⟨z.toArray⟩).toArray[k]? = some (.string (D.moB (k + 1))) := by
  intro k hk
  have : k = 0 ∨ k = 1 ∨ k = 2 ∨ k = 3 ∨ k = 4 ∨ k = 5 ∨ k = 6 ∨ k = 7 ∨ k = 8 ∨ k = 9 ∨ k = 10 ∨ k = 11 := by omega
  rcases this with rfl | rfl | rfl | rfl | rfl | rfl | rfl | rfl | rfl | rfl | rfl | rfl <;> (show _ = _; kernel_rfl)

theorem of_laid {W : World} (h : laidMetH Tryz.prog Rows.condParsesRow.laid W) (_hsh : W.ShapedOpen Tryz.prog) : D.LaidD W := by
  rw [MakeChecks.laidMetH_plain _ _ _ (by kernel_rfl)] at h
  have h2 := laidMet.tail (laidMet.tail h)
  have h4 := laidMet.tail (laidMet.tail (laidMet.tail h2))
  have h5 := laidMet.tail h4
  have h6 := laidMet.tail h5
  have h7 := laidMet.tail h6
  have ht := Lib.tabIs_of_head (zs := Lib.pow10Tab) D.gTab gTabType Tryz.underlying174 Tryz.underlying146 cellsU64 cellsTab h2
  obtain ⟨a2, s2, hv2, -⟩ := laid_sentinel h4 gES gESType Tryz.underlying107 rowES Tryz.underlying177 Tryz.underlying179 rfl rfl Tryz.underlying9 cellsES cellsStr
  have hw := stab_of_head (zs := wkL) gWk gWkType Tryz.underlying86 Tryz.underlying9 cellsStr cellsWk h5
  have hm := stab_of_head (zs := moL) gMo gMoType Tryz.underlying88 Tryz.underlying9 cellsStr cellsMo h6
  have hd := Lib.tabIs_of_head (zs := [31, 28, 31, 30, 31, 30, 31, 31, 30, 31, 30, 31]) gMd gMdType Tryz.underlying131 Tryz.underlying3 cellsInt cellsMd h7
  exact ⟨ht, ⟨_, _, by have := World.var?_cell gES hv2 0; simpa using this⟩, fun k hk => by have := World.var?_cell gWk hw k; rw [wkL_at k hk] at this; exact this, fun k hk => by have := World.var?_cell gMo hm k; rw [moL_at k hk] at this; exact this, fun k hk => hd.cell gMd k hk,
    lt_of_var D.gTab ht, lt_of_var gES hv2, lt_of_var gWk hw, lt_of_var gMo hm, lt_of_var gMd hd⟩

set_option maxRecDepth 100000 in
/-- a field by value, opened -/
theorem open_field {H : Type} {enc : TypeId × Value → H} {W : World} {b0 base : Nat} {sp : Nat → Bool} {held : Bool} {v : Value} {d : DataW H} {p : List MemPlace}
    (hv : Value.okWide Tryz.prog W .any b0 40 v) (h : DataW.Trod enc Tryz.prog W base sp held 40 v d p) (hz : ∀ n ∈ d.weights Tryz.prog 40, n ≤ szM) :
    ∃ (s t : ByteArray), v = .agg #[.string s, .string t] ∧ s.size ≤ szM ∧ t.size ≤ szM := by
  obtain ⟨v0, v1, y0, y1, n, rfl, rfl, -, h0, h1⟩ := Joins.open_agg2 Tryz.underlying40 (by kernel_rfl) cellsFd hv h
  obtain ⟨k0, e0, x0, -⟩ := DataW.trod_string Tryz.underlying9 h0
  obtain ⟨k1, e1, x1, -⟩ := DataW.trod_string Tryz.underlying9 h1
  simp only [List.cons.injEq, and_true] at e0 e1
  subst e0; subst e1
  have e0 : y0.1 = .lit (.string k0.data.toList) := by rw [x0]
  have e1 : y1.1 = .lit (.string k1.data.toList) := by rw [x1]
  refine ⟨k0, k1, rfl, ?_, ?_⟩
  · have := hz k0.data.toList.length (by
      simp only [DataW.weights, Tryz.underlying40]
      rw [e0]
      simp [DataW.weightsEach, DataW.weights])
    rw [Lib.size_eq]; exact this
  · have := hz k1.data.toList.length (by
      simp only [DataW.weights, Tryz.underlying40]
      rw [e1]
      simp [DataW.weightsEach, DataW.weights])
    rw [Lib.size_eq]; exact this

set_option maxRecDepth 100000 in
/-- a slice of fields that came in, opened -/
theorem open_fields {H : Type} {enc : TypeId × Value → H} {W : World} {b0 base : Nat} {sp : Nat → Bool} {held : Bool} {v : Value} {d : DataW H} {p : List MemPlace}
    (hv : Value.okWide Tryz.prog W .any b0 22 v) (h : DataW.Trod enc Tryz.prog W base sp held 22 v d p) (hz : ∀ n ∈ d.weights Tryz.prog 22, n ≤ szM) :
    ∃ (A : Option Addr) (n c : Nat) (l : List F.Fd), v = .slice A n c ∧ l.length = n ∧ n ≤ maxLen ∧ F.Mx l ∧ F.FdAt W W.heap.size A l := by
  obtain ⟨a, n, c, rfl⟩ := okWide_slice Tryz.underlying22 hv
  obtain ⟨fuel, hf⟩ := h
  rcases Deep.open_slice Tryz.underlying22 hf with ⟨h0, _⟩ | ⟨ad, len, cap, m, n', D, Pl, hcs, hb, hl, hm, hmm, hx, hi⟩
  · have e : Value.slice a n c = .slice none 0 0 := by simpa [Value.cells] using h0
    injection e with e1 e2 e3
    subst e1; subst e2
    exact ⟨none, 0, c, [], rfl, rfl, Nat.zero_le _, fun x hx => absurd hx (by simp), fun h => absurd h (by simp)⟩
  · have e : Value.slice a n c = .slice (some ad) len cap := by simpa [Value.cells] using hcs
    injection e with e1 e2 e3
    subst e1; subst e2; subst e3
    have hlm : n ≤ m := by rw [hmm]; split <;> omega
    have hd : d = .slice ((List.range n).map D) ((List.range (m - n)).map fun j => D (n + j)) := congrArg Prod.fst hx
    have hex : ∀ i, i < n → ∃ q : F.Fd, W.cell? (ad.add (i * 2)) = some (.string q.1) ∧ W.cell? ((ad.add (i * 2)).add 1) = some (.string q.2) ∧ q.1.size ≤ szM ∧ q.2.size ≤ szM := fun i hin => by
      obtain ⟨cs', hc, ht⟩ := hi i (by omega)
      rw [cellsFd] at hc
      obtain ⟨ys, k, _, hxd, hcl, hyl, hg⟩ := DataW.trod_struct Tryz.underlying40 ht
      obtain ⟨_, _, hat⟩ := World.cells?_some hc
      rw [cellsFd] at hcl
      match cs', hcl, hyl, hat, hg with
      | [u, v], _, hyl, hat, hg =>
        have hone : Tryz.prog.cellsOf 9 = 1 := by kernel_rfl
        have h0 := hg 0 { name := "Name", type := 9, offset := 0, embedded := false, tag := "", pkgPath := "", byteOffset := 0 } rfl
        have h1 := hg 1 { name := "Value", type := 9, offset := 1, embedded := false, tag := "", pkgPath := "", byteOffset := 16 } rfl
        dsimp only at h0 h1
        rw [hone] at h0
        rw [hone] at h1
        have hys : ys.length = 2 := hyl
        obtain ⟨y0, y1, hyy⟩ : ∃ y0 y1, ys = [y0, y1] := by
          clear h0 h1 hg hxd hyl
          match ys, hys with
          | [a, b], _ => exact ⟨a, b, rfl⟩
        subst hyy
        rw [List.getElem?_eq_getElem (by simp)] at h0 h1
        obtain ⟨k0, e0, x0, _⟩ := DataW.trod_string Tryz.underlying9 h0
        obtain ⟨k1, e1, x1, -⟩ := DataW.trod_string Tryz.underlying9 h1
        have e0' : u = .string k0 := by simpa using e0
        have e1' : v = .string k1 := by simpa using e1
        subst e0'; subst e1'
        have a0 := hat 0 (by simp)
        have a1 := hat 1 (by simp)
        have hDi : D i = .agg [y0.1, y1.1] := congrArg Prod.fst hxd
        have e0 : y0.1 = .lit (.string k0.data.toList) := by
          have : y0 = _ := x0
          rw [this]
        have e1 : y1.1 = .lit (.string k1.data.toList) := by
          have : y1 = _ := x1
          rw [this]
        have hwt : ∀ m ∈ (D i).weights Tryz.prog 40, m ≤ szM := fun m hm => hz _ (by
          rw [hd]
          simp only [DataW.weights, Tryz.underlying22, List.mem_cons, List.mem_append]
          exact Or.inr (Or.inl (weights_all (List.mem_map.2 ⟨i, by simpa using hin, rfl⟩) _ hm)))
        refine ⟨(k0, k1), by simpa [Addr.add] using a0, by simpa using a1, ?_, ?_⟩
        · show k0.size ≤ szM
          rw [Lib.size_eq]
          apply hwt
          rw [hDi]
          simp only [DataW.weights, Tryz.underlying40]
          rw [e0]
          simp [DataW.weightsEach, DataW.weights]
        · show k1.size ≤ szM
          rw [Lib.size_eq]
          apply hwt
          rw [hDi]
          simp only [DataW.weights, Tryz.underlying40]
          rw [e1]
          simp [DataW.weightsEach, DataW.weights]
    obtain ⟨f, hfs⟩ : ∃ f : Nat → F.Fd, ∀ i, i < n → W.cell? (ad.add (i * 2)) = some (.string (f i).1) ∧ W.cell? ((ad.add (i * 2)).add 1) = some (.string (f i).2) ∧ (f i).1.size ≤ szM ∧ (f i).2.size ≤ szM :=
      ⟨fun i => if h : i < n then Classical.choose (hex i h) else (⟨#[]⟩, ⟨#[]⟩), fun i h => by simp only [h, dif_pos]; exact Classical.choose_spec (hex i h)⟩
    refine ⟨some ad, n, c, (List.range n).map f, rfl, by simp, by omega, fun x hx => ?_, fun hpos => ?_⟩
    · obtain ⟨i, hi, rfl⟩ := List.mem_map.1 hx
      exact (hfs i (by simpa using hi)).2.2
    have hn0 : 0 < n := by simpa using hpos
    obtain ⟨b, o, spot⟩ := ad
    have hspot : spot = Option.none := by simpa [Addr.add] using World.cell?_spot (hfs 0 hn0).1
    subst hspot
    have hlt : b < W.heap.size := World.block_lt_of_cell? W ⟨b, o, Option.none⟩ (by have := (hfs 0 hn0).1; simpa [Addr.add] using this)
    refine ⟨b, o, rfl, hlt, fun j hj => ?_⟩
    have hj' : j < n := by simpa using hj
    obtain ⟨h1, h2, -⟩ := hfs j hj'
    rw [Addr.add_lit] at h1 h2
    rw [Addr.add_lit] at h2
    simpa using ⟨h1, h2⟩

end Go.Proofs.YtomcoacndppkcaaGreatDoor

