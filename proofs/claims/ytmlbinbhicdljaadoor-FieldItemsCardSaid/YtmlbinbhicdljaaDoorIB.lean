/-
  The program's items, told one by one; the statement's own lists of them.
-/
import Derived.Test.YtmlbinbhicdljaaDoorIA
namespace Go.Proofs.YtmlbinbhicdljaaDoor
open Go Go.RowKit

theorem itemsD_len (l : List ByteArray) : (itemsD l).length ≤ xsum l + l.length := by
  unfold itemsD xsum
  induction l with
  | nil => simp
  | cons v l ih =>
    have h := itemsV_len v.data.toList
    rw [← Lib.size_eq] at h
    simp only [List.flatMap_cons, List.length_append, List.map_cons, List.sum_cons, List.length_cons]; omega
theorem xsum_le {l : List ByteArray} (k : Nat) : xsum (l.take k) ≤ xsum l := by
  have h := xsum_append (l.take k) (l.drop k)
  rw [List.take_append_drop] at h
  omega
def msI (vi vm : Value) : Nat := match vm, vi with
  | .bool true, .string b => b.size + 1
  | _, _ => 0
theorem Values_any (v : Value) (w : World) (A : Option Addr) (n c : Nat) (hv : v = .slice A n c) :
    Calls Tryd.prog 43 #[v] w fun e w' => e = .returned (.func (.func 66) #[] #[.pointer (some ⟨w.heap.size, 0, none⟩)]) ∧ w' = w.alloc (.cells #[v] 29) := by
  subst hv
  have hmf : ∀ (fn : Fn) (first cap : Array Value) (w : World), (Instr.makeFunc fn first cap).run Tryd.prog w = .ok (.func fn first cap) w := fun _ _ _ _ => rfl
  go_enter Tryd.func43, Tryd.ntmps43
  go_wp2
  go_ret
  exact ⟨rfl, rfl⟩

set_option maxHeartbeats 8000000 in
set_option maxRecDepth 20000 in
theorem Items_any (A : Option Addr) (n c : Nat) (l : List ByteArray) (w : World) (hn : l.length = n) (hm : n ≤ 60) (hg : xsum l ≤ 10000) (hs : TxAt w w.heap.size A l) :
    Calls Tryd.prog 26 #[.slice A n c] w fun e w' => ∃ b A2 n2 c2, e = .returned (.func (.func 66) #[] #[.pointer (some ⟨b, 0, none⟩)]) ∧ w.heap.size ≤ b ∧ b < w'.heap.size ∧ w'.heap[b]? = some (.cells #[.slice A2 n2 c2] 29 (0, 0)) ∧ OwnX w' w.heap.size (.slice A2 n2 c2) (itemsD l) ∧ Below w.heap.size w w' := by
  have HS := Lib.hid hs
  have HL := Lib.hid hn
  have HG := Lib.hid hg
  clear hs hn hg
  go_enter Tryd.func26, Tryd.ntmps26
  go_wp2
  go_loopw [3, 10] (fun vl i wr => ∃ k : Nat, k ≤ n ∧ i = .int .i64 k ∧ OwnX wr w.heap.size vl (itemsD (l.take k)) ∧ Below w.heap.size w wr) (fun _ i _ => n - (intOf i).toNat)
  case atStart => exact ⟨0, Nat.zero_le _, rfl, by rw [List.take_zero]; exact World.ownsRow_nil _ _ _ _, Below.refl _ _⟩
  case round =>
    obtain ⟨k, hk, rfl, hown, hbel⟩ := hrel
    by_cases hlt : k < n
    · have hkl : k < l.length := by have := HL.out; omega
      obtain ⟨b, o, rfl, hb, hc⟩ := (HS.out.below hbel (Nat.le_refl _)) (by omega)
      have c0 := hc k hkl
      clear hc
      have HT := Lib.hid (itemsD_take hkl)
      have hxz : l[k].size ≤ 10000 := by have := xsum_at (List.getElem_mem hkl); have := HG.out; omega
      have hD2 : (itemsD (l.take (k + 1))).length ≤ 10060 := by
        have h1 := itemsD_len (l.take (k + 1))
        have h2 := xsum_le (l := l) (k + 1)
        have := HG.out
        rw [List.length_take] at h1; omega
      generalize l[k] = x at *
      have hbz : b < wr.heap.size := by have := hbel.size; omega
      obtain ⟨D2, HD2⟩ : ∃ D2, Hid (itemsD (l.take (k + 1)) = D2) := ⟨_, rfl⟩
      rw [HD2.out] at HT hD2
      have HI0 : Hid (itemsD (l.take k) ++ restI true x.data.toList = D2) := by unfold Hid; rw [HT.out]; rfl
      clear HT
      go_wp2
      go_loopw [3, 5, 6] (fun vl vi vm wr => ∃ (ib : ByteArray) (f : Bool) (acc : List ByteArray), vi = .string ib ∧ vm = .bool f ∧ OwnX wr w.heap.size vl acc ∧ ib.size ≤ 10000 ∧ Hid (acc ++ restI f ib.data.toList = D2) ∧ Below w.heap.size w wr) (fun _ vi vm _ => msI vi vm)
      case atStart => exact ⟨x, true, _, rfl, rfl, hown, hxz, HI0, hbel⟩
      case round =>
        clear hown hbel HI0 c0 hbz hxz
        obtain ⟨ib, f, acc, rfl, rfl, hown, hib, HG2, hbel⟩ := hrel
        cases f with
        | false =>
          have HF : Hid (itemsD (l.take (k + 1)) = acc) := by unfold Hid; rw [HD2.out, ← HG2.out]; unfold restI; simp
          clear HG2
          go_wp2
          go_roundw
          case rel => exact ⟨k + 1, by omega, by go_num, by rw [HF.out]; exact hown, hbel⟩
          case measure => simp [intOf]; omega
        | true =>
          have hal : acc.length ≤ 10060 := by have h := congrArg List.length HG2.out; rw [List.length_append] at h; omega
          have hcu := fun W => cutItem_any ib W (by omega)
          unfold cutV at hcu
          have hcl := cutI_len false false ib.data.toList
          rw [← Lib.size_eq] at hcl
          have HST := Lib.hid (restI_step ib.data.toList)
          generalize (cutI false false ib.data.toList).2.2 = f2 at *
          generalize (cutI false false ib.data.toList).1 = a2 at *
          generalize (cutI false false ib.data.toList).2.1 = r2 at *
          have hrs : (⟨r2.toArray⟩ : ByteArray).size ≤ 10000 ∧ (f2 = true → (⟨r2.toArray⟩ : ByteArray).size < ib.size) := by rw [ba_size]; exact ⟨by omega, hcl.2.2⟩
          have HRL : Hid ((⟨r2.toArray⟩ : ByteArray).data.toList = r2) := rfl
          have hme : ∀ B : ByteArray, B = ⟨r2.toArray⟩ → msI (.string B) (.bool f2) < ib.size + 1 := by
            intro B hB
            subst hB
            cases f2 with
            | false => exact Nat.succ_pos _
            | true => have := hrs.2 rfl; show _ + 1 < _; omega
          have HME := Lib.hid hme
          generalize hB2 : (⟨r2.toArray⟩ : ByteArray) = rb2 at *
          have htr := fun W => trimx_any ⟨a2.toArray⟩ W (by rw [ba_size]; unfold szM; omega)
          simp only at htr
          have htl := trimS_len a2 [32, 9]
          have hem : (⟨(Lib.trimS a2 [32, 9]).toArray⟩ : ByteArray).toList.isEmpty = decide (trimB a2 = []) := ba_empty _
          have hts : (⟨(Lib.trimS a2 [32, 9]).toArray⟩ : ByteArray).size ≤ 10000 := by rw [ba_size]; omega
          have HSP : Hid (keepI a2 = if trimB a2 = [] then [] else [⟨(Lib.trimS a2 [32, 9]).toArray⟩]) := rfl
          have hcn := fun W => clone_any ⟨(Lib.trimS a2 [32, 9]).toArray⟩ W (by omega)
          generalize (⟨(Lib.trimS a2 [32, 9]).toArray⟩ : ByteArray) = tb at *
          have hwz := hbel.size
          by_cases hte : trimB a2 = []
          · have hem' : tb.toList.isEmpty = true := by rw [hem]; simpa using hte
            have HK : Hid (acc ++ restI f2 rb2.data.toList = D2) := by
              unfold Hid; rw [HRL.out, ← HG2.out, HST.out, HSP.out, if_pos hte]; rfl
            clear HG2 HST HSP hem HRL hcl hB2 hte hme
            go_wp2_with (first
              | (go_at_call 41; with_reducible refine (hcu _).mono ?_; rintro e w2 ⟨rfl, hb2⟩; have B2 := hbel.trans (hb2.mono hwz); have own2 := Below.ownF hown hb2; clear hb2 hown)
              | (go_at_call 42; with_reducible refine (htr _).mono ?_; rintro e w3 ⟨rfl, hb3⟩; have B3 := B2.trans (hb3.mono B2.size); have own3 := Below.ownF own2 hb3; clear hb3 own2))
            go_roundw
            case rel => exact ⟨rb2, f2, acc, rfl, rfl, own3, hrs.1, HK, B3⟩
            case measure => exact HME.out _ rfl
          · have hem' : tb.toList.isEmpty = false := by rw [hem]; simpa using hte
            have HK : Hid ((acc ++ [tb]) ++ restI f2 rb2.data.toList = D2) := by
              unfold Hid; rw [HRL.out, ← HG2.out, HST.out, HSP.out, if_neg hte, List.append_assoc]
            clear HG2 HST HSP hem HRL hcl hB2 hte hme
            go_wp2_with (first
              | (go_at_call 41; with_reducible refine (hcu _).mono ?_; rintro e w2 ⟨rfl, hb2⟩; have B2 := hbel.trans (hb2.mono hwz); have own2 := Below.ownF hown hb2; clear hb2 hown)
              | (go_at_call 42; with_reducible refine (htr _).mono ?_; rintro e w3 ⟨rfl, hb3⟩; have B3 := B2.trans (hb3.mono B2.size); have own3 := Below.ownF own2 hb3; clear hb3 own2)
              | (go_at_call 36; with_reducible refine (hcn _).mono ?_; rintro e w4 ⟨rfl, hb4⟩; have B4 := B3.trans (hb4.mono B3.size); have own4 := Below.ownF own3 hb4; clear hb4 own3; have tok : True := trivial)
              | (at_builtin; have _t := tok; refine app_tx_at w4 w4.heap.size rfl (by rfl) _ _ (by rfl) w.heap.size _ acc tb (by rfl) own4 (by rfl) (by omega) B4.size ?_; intro v6 w6 hown6 hgrow; have B6 : Below w.heap.size w w6 := below_app B4 B4.size own4 hgrow; clear hgrow own4 tok))
            go_roundw
            case rel => exact ⟨rb2, f2, acc ++ [tb], rfl, rfl, hown6, hrs.1, HK, B6⟩
            case measure => exact HME.out _ rfl
    · obtain rfl : k = n := by omega
      have HF : Hid (l.take k = l) := List.take_of_length_le (by have := HL.out; omega)
      rw [HF.out] at hown
      obtain ⟨A2, n2, c2, hv, -⟩ := (IsTx.own hown).split
      subst hv
      go_wp2_with (go_at_call 43; with_reducible refine (Values_any _ _ A2 n2 c2 rfl).mono ?_; rintro e w1 ⟨rfl, rfl⟩)
      go_ret
      exact ⟨wr.heap.size, A2, n2, c2, rfl, hbel.size, by simp, heap_alloc_new wr _, hown.alloc _, hbel.alloc hbel.size _⟩

set_option maxHeartbeats 4000000 in
set_option maxRecDepth 20000 in
theorem values_items (go : Nat → Bool) (I : Nat → World → Prop) (p : Value) (sb : Nat) (A : Option Addr) (n c : Nat) (l : List ByteArray) (hn : l.length = n) (hm : n ≤ 1000000)
    (hsb : ∀ W, I 0 W → W.cell? ⟨sb, 0, none⟩ = some (.slice A n c)) (hcell : ∀ k W, I k W → TxAt W W.heap.size A l)
    (hy : ∀ k (hk : k < l.length) W, I k W → Calls Tryd.prog 40 #[.string l[k], p] W fun e w' => e = .returned (.bool (go k)) ∧ I (k + 1) w') (w : World) (hw : I 0 w) :
    Calls Tryd.prog 66 #[.func (.func 40) #[] #[p], .pointer (some ⟨sb, 0, none⟩)] w fun e w' =>
      e = .returned (.tuple #[]) ∧ ∃ r, r ≤ n ∧ (∀ j, j + 1 < r → go j = true) ∧ (r = n ∨ (0 < r ∧ go (r - 1) = false)) ∧ I r w' := by
  have HN := Lib.hid hn
  have hs0 := hsb w hw
  clear hn
  go_enter Tryd.func66, Tryd.ntmps66
  go_wp2
  go_loopw [7] (fun i wr => ∃ k : Nat, k ≤ n ∧ i = .int .i64 k ∧ I k wr ∧ Hid (∀ j, j < k → go j = true)) (fun i _ => n - (intOf i).toNat)
  case atStart => exact ⟨0, Nat.zero_le _, rfl, hw, fun j h => absurd h (Nat.not_lt_zero _)⟩
  case round =>
    obtain ⟨k, hk, rfl, hI, HG⟩ := hrel
    by_cases hlt : k < n
    · have hkl : k < l.length := by have := HN.out; omega
      obtain ⟨b, o, rfl, hbb, hc⟩ := (hcell k wr hI) (by omega)
      have c0 := hc k hkl
      clear hc
      have HY := Lib.hid (hy k hkl wr hI)
      generalize l[k] = x at *
      clear hI hsb hcell hy hw
      cases hg : go k with
      | false =>
        rw [hg] at HY
        have HR : Hid (∀ j, j + 1 < k + 1 → go j = true) := fun j h => HG.out j (by omega)
        go_wp2_with (go_at_call 40; refine HY.out.mono ?_; rintro e w1 ⟨rfl, hI1⟩; have HI1 := Lib.hid hI1; clear hI1)
        refine bodyPost_ret (v := .tuple #[]) (by simp [results, Tryd.results66, go_sem]) rfl ?_
        exact ⟨rfl, k + 1, by omega, HR.out, .inr ⟨by omega, by simpa using hg⟩, HI1.out⟩
      | true =>
        rw [hg] at HY
        have HR : Hid (∀ j, j < k + 1 → go j = true) := fun j h => by
          by_cases e : j = k
          · subst e; exact hg
          · exact HG.out j (by omega)
        go_wp2_with (go_at_call 40; refine HY.out.mono ?_; rintro e w1 ⟨rfl, hI1⟩; have HI1 := Lib.hid hI1; clear hI1)
        go_roundw
        case rel => exact ⟨k + 1, by omega, by go_num, HI1.out, HR⟩
        case measure => simp [intOf]; omega
    · obtain rfl : k = n := by omega
      have HI := Lib.hid hI
      clear hI hsb hcell hy hw
      go_wp2
      go_end0
      exact ⟨rfl, k, Nat.le_refl _, fun j h => HG.out j (by omega), .inl rfl, HI.out⟩

set_option maxHeartbeats 4000000 in
set_option maxRecDepth 20000 in
theorem values_some (go : Nat → Bool) (I : Nat → World → Prop) (p q : Value) (sb : Nat) (A : Option Addr) (n c : Nat) (l : List ByteArray) (hn : l.length = n) (hm : n ≤ 1000000)
    (hsb : ∀ W, I 0 W → W.cell? ⟨sb, 0, none⟩ = some (.slice A n c)) (hcell : ∀ k W, I k W → TxAt W W.heap.size A l)
    (hy : ∀ k (hk : k < l.length) W, I k W → Calls Tryd.prog 27 #[.string l[k], p, q] W fun e w' => e = .returned (.bool (go k)) ∧ I (k + 1) w') (w : World) (hw : I 0 w) :
    Calls Tryd.prog 66 #[.func (.func 27) #[] #[p, q], .pointer (some ⟨sb, 0, none⟩)] w fun e w' =>
      e = .returned (.tuple #[]) ∧ ∃ r, r ≤ n ∧ (∀ j, j + 1 < r → go j = true) ∧ (r = n ∨ (0 < r ∧ go (r - 1) = false)) ∧ I r w' := by
  have HN := Lib.hid hn
  have hs0 := hsb w hw
  clear hn
  go_enter Tryd.func66, Tryd.ntmps66
  go_wp2
  go_loopw [7] (fun i wr => ∃ k : Nat, k ≤ n ∧ i = .int .i64 k ∧ I k wr ∧ Hid (∀ j, j < k → go j = true)) (fun i _ => n - (intOf i).toNat)
  case atStart => exact ⟨0, Nat.zero_le _, rfl, hw, fun j h => absurd h (Nat.not_lt_zero _)⟩
  case round =>
    obtain ⟨k, hk, rfl, hI, HG⟩ := hrel
    by_cases hlt : k < n
    · have hkl : k < l.length := by have := HN.out; omega
      obtain ⟨b, o, rfl, hbb, hc⟩ := (hcell k wr hI) (by omega)
      have c0 := hc k hkl
      clear hc
      have HY := Lib.hid (hy k hkl wr hI)
      generalize l[k] = x at *
      clear hI hsb hcell hy hw
      cases hg : go k with
      | false =>
        rw [hg] at HY
        have HR : Hid (∀ j, j + 1 < k + 1 → go j = true) := fun j h => HG.out j (by omega)
        go_wp2_with (go_at_call 27; refine HY.out.mono ?_; rintro e w1 ⟨rfl, hI1⟩; have HI1 := Lib.hid hI1; clear hI1)
        refine bodyPost_ret (v := .tuple #[]) (by simp [results, Tryd.results66, go_sem]) rfl ?_
        exact ⟨rfl, k + 1, by omega, HR.out, .inr ⟨by omega, by simpa using hg⟩, HI1.out⟩
      | true =>
        rw [hg] at HY
        have HR : Hid (∀ j, j < k + 1 → go j = true) := fun j h => by
          by_cases e : j = k
          · subst e; exact hg
          · exact HG.out j (by omega)
        go_wp2_with (go_at_call 27; refine HY.out.mono ?_; rintro e w1 ⟨rfl, hI1⟩; have HI1 := Lib.hid hI1; clear hI1)
        go_roundw
        case rel => exact ⟨k + 1, by omega, by go_num, HI1.out, HR⟩
        case measure => simp [intOf]; omega
    · obtain rfl : k = n := by omega
      have HI := Lib.hid hI
      clear hI hsb hcell hy hw
      go_wp2
      go_end0
      exact ⟨rfl, k, Nat.le_refl _, fun j h => HG.out j (by omega), .inl rfl, HI.out⟩
end Go.Proofs.YtmlbinbhicdljaaDoor
