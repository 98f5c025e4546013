/-
  Which fields are right, by the reference.
-/
import Derived.Test.YtmlbinbhicdljaaDoorER
namespace Go.Proofs.YtmlbinbhicdljaaDoor
open Go Go.RowKit

theorem rightD_tok {s t : ByteArray} (h : tokS s = false) : rightD (s, t) = false := by unfold rightD nameS; simp [h]
theorem rightD_long {s t : ByteArray} (h : 200 < s.size) : rightD (s, t) = false := by unfold rightD; simp [nameS_great h]
theorem rightD_great {s t : ByteArray} (h : 8192 < t.size) : rightD (s, t) = false := by unfold rightD; simp [valueS_great h]
theorem rightD_trim {s t : ByteArray} (h : (⟨(trimB t.data.toList).toArray⟩ : ByteArray) ≠ t) : rightD (s, t) = false := by unfold rightD; simp [valueS_trim h]
theorem rightD_rest {s t : ByteArray} (h1 : tokS s = true) (h2 : ¬ 200 < s.size) (h3 : ¬ 8192 < t.size) (h4 : (⟨(trimB t.data.toList).toArray⟩ : ByteArray) = t) : rightD (s, t) = t.data.toList.all fun x => valN x.toNat := by
  unfold rightD nameS
  rw [valueS_all h3 h4, h1, decide_eq_true (p := s.size ≤ 200) (by omega)]; rfl

set_option maxHeartbeats 8000000 in
set_option maxRecDepth 100000 in
theorem rright_any (s t : ByteArray) (w : World) (hs : s.size ≤ szM) (ht : t.size ≤ szM) :
    Calls Tryd.prog 29 #[.agg #[.string s, .string t]] w fun e w' => e = .returned (.bool (rightD (s, t))) ∧ Below w.heap.size w w' := by
  have hT := fun W => rtoken_any s W hs
  have hb0 : Ext w (w.alloc (.cells #[.string s, .string t] 43)) := (Below.refl _ _).alloc (Nat.le_refl _) _
  have k0 : ∀ W, Ext (w.alloc (.cells #[.string s, .string t] 43)) W → W.cell? ⟨w.heap.size, 0, none⟩ = some (.string s) := fun W h => (one_cells h).1
  have k1 : ∀ W, Ext (w.alloc (.cells #[.string s, .string t] 43)) W → W.cell? ⟨w.heap.size, 1, none⟩ = some (.string t) := fun W h => (one_cells h).2.1
  unfold szM at hs ht
  cases hq : tokS s with
  | false =>
    have HF := Lib.hid (rightD_tok (t := t) hq)
    rw [hq] at hT
    clear hq
    go_enter Tryd.func29, Tryd.ntmps29
    go_wp2_with fail
    refine' wp_region_made (rels := relsOf ((.val _) :: (.val _) :: (.val _) :: (.val _) :: (.val _) :: (.val _) :: (.val _) :: (.val _) :: (.val _) :: (.val _) :: (.val _) :: (.val _) :: (.val _) :: (.val _) :: (.val _) :: (.val _) :: (.val _) :: (.val _) :: (.val _) :: (.val _) :: (.val _) :: (.val _) :: (.val _) :: (.val _) :: [])) (w := (w.alloc (.cells #[.string s, .string t] 43))) 54 (by kernel_rfl) (by kernel_rfl) (by rfl) (relsOf_stable ?sta) ?wka
    case sta => exact stable_val (stable_val (stable_val (stable_val (stable_val (stable_val (stable_val (stable_val (stable_val (stable_val (stable_val (stable_val (stable_val (stable_val (stable_val (stable_val (stable_val (stable_val (stable_val (stable_val (stable_val (stable_val (stable_val (stable_val (stable_nil))))))))))))))))))))))))
    case wka =>
      refine' walk_val (by rfl) ?aa0 (fun K hK => ?ba0); (case aa0 => (intro W hW hd; clear hd; go_simp; first | exact ⟨Ext.rf _, rfl⟩ | rfl)); (go_simp; refine hK _ ?_; clear hK K)
      refine' walk_val (by rfl) ?aa1 (fun K hK => ?ba1); (case aa1 => (intro W hW hd; clear hd; go_simp; first | exact ⟨Ext.rf _, rfl⟩ | rfl)); (go_simp; refine hK _ ?_; clear hK K)
      refine' walk_val (by rfl) ?aa2 (fun K hK => ?ba2); (case aa2 => (intro W hW hd; go_simp; (clear hd; exact makes_val (hT W)))); (go_simp; refine hK _ ?_; clear hK K)
      refine' walk_val (by rfl) ?aa3 (fun K hK => ?ba3); (case aa3 => (intro W hW hd; clear hd; go_simp; first | exact ⟨Ext.rf _, rfl⟩ | rfl)); (go_simp; refine hK _ ?_; clear hK K)
      refine' walk_val (by rfl) ?aa4 (fun K hK => ?ba4); (case aa4 => (intro W hW hd; clear hd; go_simp; first | exact ⟨Ext.rf _, rfl⟩ | rfl)); (go_simp; refine hK _ ?_; clear hK K)
      refine' walk_val (by rfl) ?aa5 (fun K hK => ?ba5); (case aa5 => (intro W hW hd; clear hd; go_simp; first | exact ⟨Ext.rf _, rfl⟩ | rfl)); (go_simp; refine hK _ ?_; clear hK K)
      refine' walk_val (by rfl) ?aa6 (fun K hK => ?ba6); (case aa6 => (intro W hW hd; clear hd; go_simp; first | exact ⟨Ext.rf _, rfl⟩ | rfl)); (go_simp; refine hK _ ?_; clear hK K)
      refine' walk_val (by rfl) ?aa7 (fun K hK => ?ba7); (case aa7 => (intro W hW hd; clear hd; go_simp; first | exact ⟨Ext.rf _, rfl⟩ | rfl)); (go_simp; refine hK _ ?_; clear hK K)
      refine' walk_val (by rfl) ?aa8 (fun K hK => ?ba8); (case aa8 => (intro W hW hd; clear hd; go_simp; first | exact ⟨Ext.rf _, rfl⟩ | rfl)); (go_simp; refine hK _ ?_; clear hK K)
      refine' walk_val (by rfl) ?aa9 (fun K hK => ?ba9); (case aa9 => (intro W hW hd; clear hd; go_simp; first | exact ⟨Ext.rf _, rfl⟩ | rfl)); (go_simp; refine hK _ ?_; clear hK K)
      refine' walk_val (by rfl) ?aa10 (fun K hK => ?ba10); (case aa10 => (intro W hW hd; clear hd; go_simp; first | exact ⟨Ext.rf _, rfl⟩ | rfl)); (go_simp; refine hK _ ?_; clear hK K)
      refine' walk_val (by rfl) ?aa11 (fun K hK => ?ba11); (case aa11 => (intro W hW hd; clear hd; go_simp; first | exact ⟨Ext.rf _, rfl⟩ | rfl)); (go_simp; refine hK _ ?_; clear hK K)
      refine' walk_val (by rfl) ?aa12 (fun K hK => ?ba12); (case aa12 => (intro W hW hd; clear hd; go_simp; first | exact ⟨Ext.rf _, rfl⟩ | rfl)); (go_simp; refine hK _ ?_; clear hK K)
      refine' walk_val (by rfl) ?aa13 (fun K hK => ?ba13); (case aa13 => (intro W hW hd; clear hd; go_simp; first | exact ⟨Ext.rf _, rfl⟩ | rfl)); (go_simp; refine hK _ ?_; clear hK K)
      refine' walk_val (by rfl) ?aa14 (fun K hK => ?ba14); (case aa14 => (intro W hW hd; clear hd; go_simp; first | exact ⟨Ext.rf _, rfl⟩ | rfl)); (go_simp; refine hK _ ?_; clear hK K)
      refine' walk_val (by rfl) ?aa15 (fun K hK => ?ba15); (case aa15 => (intro W hW hd; clear hd; go_simp; first | exact ⟨Ext.rf _, rfl⟩ | rfl)); (go_simp; refine hK _ ?_; clear hK K)
      refine' walk_val (by rfl) ?aa16 (fun K hK => ?ba16); (case aa16 => (intro W hW hd; clear hd; go_simp; first | exact ⟨Ext.rf _, rfl⟩ | rfl)); (go_simp; refine hK _ ?_; clear hK K)
      refine' walk_val (by rfl) ?aa17 (fun K hK => ?ba17); (case aa17 => (intro W hW hd; clear hd; go_simp; first | exact ⟨Ext.rf _, rfl⟩ | rfl)); (go_simp; refine hK _ ?_; clear hK K)
      refine' walk_val (by rfl) ?aa18 (fun K hK => ?ba18); (case aa18 => (intro W hW hd; clear hd; go_simp; first | exact ⟨Ext.rf _, rfl⟩ | rfl)); (go_simp; refine hK _ ?_; clear hK K)
      refine' walk_val (by rfl) ?aa19 (fun K hK => ?ba19); (case aa19 => (intro W hW hd; clear hd; go_simp; first | exact ⟨Ext.rf _, rfl⟩ | rfl)); (go_simp; refine hK _ ?_; clear hK K)
      refine' walk_val (by rfl) ?aa20 (fun K hK => ?ba20); (case aa20 => (intro W hW hd; clear hd; go_simp; first | exact ⟨Ext.rf _, rfl⟩ | rfl)); (go_simp; refine hK _ ?_; clear hK K)
      refine' walk_val (by rfl) ?aa21 (fun K hK => ?ba21); (case aa21 => (intro W hW hd; clear hd; go_simp; first | exact ⟨Ext.rf _, rfl⟩ | rfl)); (go_simp; refine hK _ ?_; clear hK K)
      refine' walk_val (by rfl) ?aa22 (fun K hK => ?ba22); (case aa22 => (intro W hW hd; clear hd; go_simp; first | exact ⟨Ext.rf _, rfl⟩ | rfl)); (go_simp; refine hK _ ?_; clear hK K)
      refine' walk_val (by rfl) ?aa23 (fun K hK => ?ba23); (case aa23 => (intro W hW hd; clear hd; go_simp; first | exact ⟨Ext.rf _, rfl⟩ | rfl)); (go_simp; refine hK _ ?_; clear hK K)
      refine walk_end (fun W hW hfin => ?_)
      have B6 : Ext w W := Ext.tr hb0 hW
      clear hfin
      go_wp2
      go_ret
      exact ⟨ret_bool HF.out.symm, B6⟩
  | true =>
    rw [hq] at hT
    by_cases h2 : 200 < s.size
    · have HF := Lib.hid (rightD_long (t := t) h2)
      have q1 : ¬ ((s.size : Int) ≤ 200) := by omega
      clear hq
      go_enter Tryd.func29, Tryd.ntmps29
      go_wp2_with fail
      refine' wp_region_made (rels := relsOf ((.val _) :: (.val _) :: (.val _) :: (.val _) :: (.val _) :: (.val _) :: (.val _) :: (.val _) :: (.val _) :: (.val _) :: (.val _) :: (.val _) :: (.val _) :: (.val _) :: (.val _) :: (.val _) :: (.val _) :: (.val _) :: (.val _) :: (.val _) :: (.val _) :: (.val _) :: (.val _) :: (.val _) :: [])) (w := (w.alloc (.cells #[.string s, .string t] 43))) 54 (by kernel_rfl) (by kernel_rfl) (by rfl) (relsOf_stable ?stb) ?wkb
      case stb => exact stable_val (stable_val (stable_val (stable_val (stable_val (stable_val (stable_val (stable_val (stable_val (stable_val (stable_val (stable_val (stable_val (stable_val (stable_val (stable_val (stable_val (stable_val (stable_val (stable_val (stable_val (stable_val (stable_val (stable_val (stable_nil))))))))))))))))))))))))
      case wkb =>
        refine' walk_val (by rfl) ?ab0 (fun K hK => ?bb0); (case ab0 => (intro W hW hd; clear hd; go_simp; first | exact ⟨Ext.rf _, rfl⟩ | rfl)); (go_simp; refine hK _ ?_; clear hK K)
        refine' walk_val (by rfl) ?ab1 (fun K hK => ?bb1); (case ab1 => (intro W hW hd; clear hd; go_simp; first | exact ⟨Ext.rf _, rfl⟩ | rfl)); (go_simp; refine hK _ ?_; clear hK K)
        refine' walk_val (by rfl) ?ab2 (fun K hK => ?bb2); (case ab2 => (intro W hW hd; go_simp; (clear hd; exact makes_val (hT W)))); (go_simp; refine hK _ ?_; clear hK K)
        refine' walk_val (by rfl) ?ab3 (fun K hK => ?bb3); (case ab3 => (intro W hW hd; clear hd; go_simp; first | exact ⟨Ext.rf _, rfl⟩ | rfl)); (go_simp; refine hK _ ?_; clear hK K)
        refine' walk_val (by rfl) ?ab4 (fun K hK => ?bb4); (case ab4 => (intro W hW hd; clear hd; go_simp; first | exact ⟨Ext.rf _, rfl⟩ | rfl)); (go_simp; refine hK _ ?_; clear hK K)
        refine' walk_val (by rfl) ?ab5 (fun K hK => ?bb5); (case ab5 => (intro W hW hd; clear hd; go_simp; first | exact ⟨Ext.rf _, rfl⟩ | rfl)); (go_simp; refine hK _ ?_; clear hK K)
        refine' walk_val (by rfl) ?ab6 (fun K hK => ?bb6); (case ab6 => (intro W hW hd; clear hd; go_simp; first | exact ⟨Ext.rf _, rfl⟩ | rfl)); (go_simp; refine hK _ ?_; clear hK K)
        refine' walk_val (by rfl) ?ab7 (fun K hK => ?bb7); (case ab7 => (intro W hW hd; clear hd; go_simp; first | exact ⟨Ext.rf _, rfl⟩ | rfl)); (go_simp; refine hK _ ?_; clear hK K)
        refine' walk_val (by rfl) ?ab8 (fun K hK => ?bb8); (case ab8 => (intro W hW hd; clear hd; go_simp; first | exact ⟨Ext.rf _, rfl⟩ | rfl)); (go_simp; refine hK _ ?_; clear hK K)
        refine' walk_val (by rfl) ?ab9 (fun K hK => ?bb9); (case ab9 => (intro W hW hd; clear hd; go_simp; first | exact ⟨Ext.rf _, rfl⟩ | rfl)); (go_simp; refine hK _ ?_; clear hK K)
        refine' walk_val (by rfl) ?ab10 (fun K hK => ?bb10); (case ab10 => (intro W hW hd; clear hd; go_simp; first | exact ⟨Ext.rf _, rfl⟩ | rfl)); (go_simp; refine hK _ ?_; clear hK K)
        refine' walk_val (by rfl) ?ab11 (fun K hK => ?bb11); (case ab11 => (intro W hW hd; clear hd; go_simp; first | exact ⟨Ext.rf _, rfl⟩ | rfl)); (go_simp; refine hK _ ?_; clear hK K)
        refine' walk_val (by rfl) ?ab12 (fun K hK => ?bb12); (case ab12 => (intro W hW hd; clear hd; go_simp; first | exact ⟨Ext.rf _, rfl⟩ | rfl)); (go_simp; refine hK _ ?_; clear hK K)
        refine' walk_val (by rfl) ?ab13 (fun K hK => ?bb13); (case ab13 => (intro W hW hd; clear hd; go_simp; first | exact ⟨Ext.rf _, rfl⟩ | rfl)); (go_simp; refine hK _ ?_; clear hK K)
        refine' walk_val (by rfl) ?ab14 (fun K hK => ?bb14); (case ab14 => (intro W hW hd; clear hd; go_simp; first | exact ⟨Ext.rf _, rfl⟩ | rfl)); (go_simp; refine hK _ ?_; clear hK K)
        refine' walk_val (by rfl) ?ab15 (fun K hK => ?bb15); (case ab15 => (intro W hW hd; clear hd; go_simp; first | exact ⟨Ext.rf _, rfl⟩ | rfl)); (go_simp; refine hK _ ?_; clear hK K)
        refine' walk_val (by rfl) ?ab16 (fun K hK => ?bb16); (case ab16 => (intro W hW hd; clear hd; go_simp; first | exact ⟨Ext.rf _, rfl⟩ | rfl)); (go_simp; refine hK _ ?_; clear hK K)
        refine' walk_val (by rfl) ?ab17 (fun K hK => ?bb17); (case ab17 => (intro W hW hd; clear hd; go_simp; first | exact ⟨Ext.rf _, rfl⟩ | rfl)); (go_simp; refine hK _ ?_; clear hK K)
        refine' walk_val (by rfl) ?ab18 (fun K hK => ?bb18); (case ab18 => (intro W hW hd; clear hd; go_simp; first | exact ⟨Ext.rf _, rfl⟩ | rfl)); (go_simp; refine hK _ ?_; clear hK K)
        refine' walk_val (by rfl) ?ab19 (fun K hK => ?bb19); (case ab19 => (intro W hW hd; clear hd; go_simp; first | exact ⟨Ext.rf _, rfl⟩ | rfl)); (go_simp; refine hK _ ?_; clear hK K)
        refine' walk_val (by rfl) ?ab20 (fun K hK => ?bb20); (case ab20 => (intro W hW hd; clear hd; go_simp; first | exact ⟨Ext.rf _, rfl⟩ | rfl)); (go_simp; refine hK _ ?_; clear hK K)
        refine' walk_val (by rfl) ?ab21 (fun K hK => ?bb21); (case ab21 => (intro W hW hd; clear hd; go_simp; first | exact ⟨Ext.rf _, rfl⟩ | rfl)); (go_simp; refine hK _ ?_; clear hK K)
        refine' walk_val (by rfl) ?ab22 (fun K hK => ?bb22); (case ab22 => (intro W hW hd; clear hd; go_simp; first | exact ⟨Ext.rf _, rfl⟩ | rfl)); (go_simp; refine hK _ ?_; clear hK K)
        refine' walk_val (by rfl) ?ab23 (fun K hK => ?bb23); (case ab23 => (intro W hW hd; clear hd; go_simp; first | exact ⟨Ext.rf _, rfl⟩ | rfl)); (go_simp; refine hK _ ?_; clear hK K)
        refine walk_end (fun W hW hfin => ?_)
        have B6 : Ext w W := Ext.tr hb0 hW
        clear hfin
        go_wp2
        go_ret
        exact ⟨ret_bool HF.out.symm, B6⟩
    · by_cases h3 : 8192 < t.size
      · have HF := Lib.hid (rightD_great (s := s) h3)
        have q1 : ((s.size : Int) ≤ 200) := by omega
        have q2 : ¬ ((t.size : Int) ≤ 8192) := by omega
        clear hq
        go_enter Tryd.func29, Tryd.ntmps29
        go_wp2_with fail
        refine' wp_region_made (rels := relsOf ((.val _) :: (.val _) :: (.val _) :: (.val _) :: (.val _) :: (.val _) :: (.val _) :: (.val _) :: (.val _) :: (.val _) :: (.val _) :: (.val _) :: (.val _) :: (.val _) :: (.val _) :: (.val _) :: (.val _) :: (.val _) :: (.val _) :: (.val _) :: (.val _) :: (.val _) :: (.val _) :: (.val _) :: [])) (w := (w.alloc (.cells #[.string s, .string t] 43))) 54 (by kernel_rfl) (by kernel_rfl) (by rfl) (relsOf_stable ?stc) ?wkc
        case stc => exact stable_val (stable_val (stable_val (stable_val (stable_val (stable_val (stable_val (stable_val (stable_val (stable_val (stable_val (stable_val (stable_val (stable_val (stable_val (stable_val (stable_val (stable_val (stable_val (stable_val (stable_val (stable_val (stable_val (stable_val (stable_nil))))))))))))))))))))))))
        case wkc =>
          refine' walk_val (by rfl) ?ac0 (fun K hK => ?bc0); (case ac0 => (intro W hW hd; clear hd; go_simp; first | exact ⟨Ext.rf _, rfl⟩ | rfl)); (go_simp; refine hK _ ?_; clear hK K)
          refine' walk_val (by rfl) ?ac1 (fun K hK => ?bc1); (case ac1 => (intro W hW hd; clear hd; go_simp; first | exact ⟨Ext.rf _, rfl⟩ | rfl)); (go_simp; refine hK _ ?_; clear hK K)
          refine' walk_val (by rfl) ?ac2 (fun K hK => ?bc2); (case ac2 => (intro W hW hd; go_simp; (clear hd; exact makes_val (hT W)))); (go_simp; refine hK _ ?_; clear hK K)
          refine' walk_val (by rfl) ?ac3 (fun K hK => ?bc3); (case ac3 => (intro W hW hd; clear hd; go_simp; first | exact ⟨Ext.rf _, rfl⟩ | rfl)); (go_simp; refine hK _ ?_; clear hK K)
          refine' walk_val (by rfl) ?ac4 (fun K hK => ?bc4); (case ac4 => (intro W hW hd; clear hd; go_simp; first | exact ⟨Ext.rf _, rfl⟩ | rfl)); (go_simp; refine hK _ ?_; clear hK K)
          refine' walk_val (by rfl) ?ac5 (fun K hK => ?bc5); (case ac5 => (intro W hW hd; clear hd; go_simp; first | exact ⟨Ext.rf _, rfl⟩ | rfl)); (go_simp; refine hK _ ?_; clear hK K)
          refine' walk_val (by rfl) ?ac6 (fun K hK => ?bc6); (case ac6 => (intro W hW hd; clear hd; go_simp; first | exact ⟨Ext.rf _, rfl⟩ | rfl)); (go_simp; refine hK _ ?_; clear hK K)
          refine' walk_val (by rfl) ?ac7 (fun K hK => ?bc7); (case ac7 => (intro W hW hd; clear hd; go_simp; first | exact ⟨Ext.rf _, rfl⟩ | rfl)); (go_simp; refine hK _ ?_; clear hK K)
          refine' walk_val (by rfl) ?ac8 (fun K hK => ?bc8); (case ac8 => (intro W hW hd; clear hd; go_simp; first | exact ⟨Ext.rf _, rfl⟩ | rfl)); (go_simp; refine hK _ ?_; clear hK K)
          refine' walk_val (by rfl) ?ac9 (fun K hK => ?bc9); (case ac9 => (intro W hW hd; clear hd; go_simp; first | exact ⟨Ext.rf _, rfl⟩ | rfl)); (go_simp; refine hK _ ?_; clear hK K)
          refine' walk_val (by rfl) ?ac10 (fun K hK => ?bc10); (case ac10 => (intro W hW hd; clear hd; go_simp; first | exact ⟨Ext.rf _, rfl⟩ | rfl)); (go_simp; refine hK _ ?_; clear hK K)
          refine' walk_val (by rfl) ?ac11 (fun K hK => ?bc11); (case ac11 => (intro W hW hd; clear hd; go_simp; first | exact ⟨Ext.rf _, rfl⟩ | rfl)); (go_simp; refine hK _ ?_; clear hK K)
          refine' walk_val (by rfl) ?ac12 (fun K hK => ?bc12); (case ac12 => (intro W hW hd; clear hd; go_simp; first | exact ⟨Ext.rf _, rfl⟩ | rfl)); (go_simp; refine hK _ ?_; clear hK K)
          refine' walk_val (by rfl) ?ac13 (fun K hK => ?bc13); (case ac13 => (intro W hW hd; clear hd; go_simp; first | exact ⟨Ext.rf _, rfl⟩ | rfl)); (go_simp; refine hK _ ?_; clear hK K)
          refine' walk_val (by rfl) ?ac14 (fun K hK => ?bc14); (case ac14 => (intro W hW hd; clear hd; go_simp; first | exact ⟨Ext.rf _, rfl⟩ | rfl)); (go_simp; refine hK _ ?_; clear hK K)
          refine' walk_val (by rfl) ?ac15 (fun K hK => ?bc15); (case ac15 => (intro W hW hd; clear hd; go_simp; first | exact ⟨Ext.rf _, rfl⟩ | rfl)); (go_simp; refine hK _ ?_; clear hK K)
          refine' walk_val (by rfl) ?ac16 (fun K hK => ?bc16); (case ac16 => (intro W hW hd; clear hd; go_simp; first | exact ⟨Ext.rf _, rfl⟩ | rfl)); (go_simp; refine hK _ ?_; clear hK K)
          refine' walk_val (by rfl) ?ac17 (fun K hK => ?bc17); (case ac17 => (intro W hW hd; clear hd; go_simp; first | exact ⟨Ext.rf _, rfl⟩ | rfl)); (go_simp; refine hK _ ?_; clear hK K)
          refine' walk_val (by rfl) ?ac18 (fun K hK => ?bc18); (case ac18 => (intro W hW hd; clear hd; go_simp; first | exact ⟨Ext.rf _, rfl⟩ | rfl)); (go_simp; refine hK _ ?_; clear hK K)
          refine' walk_val (by rfl) ?ac19 (fun K hK => ?bc19); (case ac19 => (intro W hW hd; clear hd; go_simp; first | exact ⟨Ext.rf _, rfl⟩ | rfl)); (go_simp; refine hK _ ?_; clear hK K)
          refine' walk_val (by rfl) ?ac20 (fun K hK => ?bc20); (case ac20 => (intro W hW hd; clear hd; go_simp; first | exact ⟨Ext.rf _, rfl⟩ | rfl)); (go_simp; refine hK _ ?_; clear hK K)
          refine' walk_val (by rfl) ?ac21 (fun K hK => ?bc21); (case ac21 => (intro W hW hd; clear hd; go_simp; first | exact ⟨Ext.rf _, rfl⟩ | rfl)); (go_simp; refine hK _ ?_; clear hK K)
          refine' walk_val (by rfl) ?ac22 (fun K hK => ?bc22); (case ac22 => (intro W hW hd; clear hd; go_simp; first | exact ⟨Ext.rf _, rfl⟩ | rfl)); (go_simp; refine hK _ ?_; clear hK K)
          refine' walk_val (by rfl) ?ac23 (fun K hK => ?bc23); (case ac23 => (intro W hW hd; clear hd; go_simp; first | exact ⟨Ext.rf _, rfl⟩ | rfl)); (go_simp; refine hK _ ?_; clear hK K)
          refine walk_end (fun W hW hfin => ?_)
          have B6 : Ext w W := Ext.tr hb0 hW
          clear hfin
          go_wp2
          go_ret
          exact ⟨ret_bool HF.out.symm, B6⟩
      · have hTr : ∀ W, Calls Tryd.prog 47 #[.string t] W fun e w' => e = .returned (.string ⟨(trimB t.data.toList).toArray⟩) ∧ Below W.heap.size W w' := fun W => (rtrim_any t W (by omega)).mono fun e w' ⟨h, hw⟩ => ⟨h, by subst hw; exact Below.refl _ _⟩
        by_cases h4 : (⟨(trimB t.data.toList).toArray⟩ : ByteArray) = t
        · have HA := Lib.hid (rightD_rest hq h2 h3 h4)
          have q1 : ((s.size : Int) ≤ 200) := by omega
          have q2 : ((t.size : Int) ≤ 8192) := by omega
          have hqq := eqB_t h4
          generalize (⟨(trimB t.data.toList).toArray⟩ : ByteArray) = tb at *
          clear h4 hq
          go_enter Tryd.func29, Tryd.ntmps29
          go_wp2_with fail
          refine' wp_region_made (rels := relsOf ((.val _) :: (.val _) :: (.val _) :: (.val _) :: (.val _) :: (.val _) :: (.val _) :: (.val _) :: (.val _) :: (.val _) :: (.val _) :: (.val _) :: (.val _) :: (.val _) :: (.val _) :: (.val _) :: (.val _) :: (.val _) :: (.val _) :: (.val _) :: (.val _) :: (.val _) :: (.val _) :: (.val _) :: [])) (w := (w.alloc (.cells #[.string s, .string t] 43))) 54 (by kernel_rfl) (by kernel_rfl) (by rfl) (relsOf_stable ?std) ?wkd
          case std => exact stable_val (stable_val (stable_val (stable_val (stable_val (stable_val (stable_val (stable_val (stable_val (stable_val (stable_val (stable_val (stable_val (stable_val (stable_val (stable_val (stable_val (stable_val (stable_val (stable_val (stable_val (stable_val (stable_val (stable_val (stable_nil))))))))))))))))))))))))
          case wkd =>
            refine' walk_val (by rfl) ?ad0 (fun K hK => ?bd0); (case ad0 => (intro W hW hd; clear hd; go_simp; first | exact ⟨Ext.rf _, rfl⟩ | rfl)); (go_simp; refine hK _ ?_; clear hK K)
            refine' walk_val (by rfl) ?ad1 (fun K hK => ?bd1); (case ad1 => (intro W hW hd; clear hd; go_simp; first | exact ⟨Ext.rf _, rfl⟩ | rfl)); (go_simp; refine hK _ ?_; clear hK K)
            refine' walk_val (by rfl) ?ad2 (fun K hK => ?bd2); (case ad2 => (intro W hW hd; go_simp; (clear hd; exact makes_val (hT W)))); (go_simp; refine hK _ ?_; clear hK K)
            refine' walk_val (by rfl) ?ad3 (fun K hK => ?bd3); (case ad3 => (intro W hW hd; clear hd; go_simp; first | exact ⟨Ext.rf _, rfl⟩ | rfl)); (go_simp; refine hK _ ?_; clear hK K)
            refine' walk_val (by rfl) ?ad4 (fun K hK => ?bd4); (case ad4 => (intro W hW hd; clear hd; go_simp; first | exact ⟨Ext.rf _, rfl⟩ | rfl)); (go_simp; refine hK _ ?_; clear hK K)
            refine' walk_val (by rfl) ?ad5 (fun K hK => ?bd5); (case ad5 => (intro W hW hd; clear hd; go_simp; first | exact ⟨Ext.rf _, rfl⟩ | rfl)); (go_simp; refine hK _ ?_; clear hK K)
            refine' walk_val (by rfl) ?ad6 (fun K hK => ?bd6); (case ad6 => (intro W hW hd; clear hd; go_simp; first | exact ⟨Ext.rf _, rfl⟩ | rfl)); (go_simp; refine hK _ ?_; clear hK K)
            refine' walk_val (by rfl) ?ad7 (fun K hK => ?bd7); (case ad7 => (intro W hW hd; clear hd; go_simp; first | exact ⟨Ext.rf _, rfl⟩ | rfl)); (go_simp; refine hK _ ?_; clear hK K)
            refine' walk_val (by rfl) ?ad8 (fun K hK => ?bd8); (case ad8 => (intro W hW hd; clear hd; go_simp; first | exact ⟨Ext.rf _, rfl⟩ | rfl)); (go_simp; refine hK _ ?_; clear hK K)
            refine' walk_val (by rfl) ?ad9 (fun K hK => ?bd9); (case ad9 => (intro W hW hd; clear hd; go_simp; first | exact ⟨Ext.rf _, rfl⟩ | rfl)); (go_simp; refine hK _ ?_; clear hK K)
            refine' walk_val (by rfl) ?ad10 (fun K hK => ?bd10); (case ad10 => (intro W hW hd; clear hd; go_simp; first | exact ⟨Ext.rf _, rfl⟩ | rfl)); (go_simp; refine hK _ ?_; clear hK K)
            refine' walk_val (by rfl) ?ad11 (fun K hK => ?bd11); (case ad11 => (intro W hW hd; clear hd; go_simp; first | exact ⟨Ext.rf _, rfl⟩ | rfl)); (go_simp; refine hK _ ?_; clear hK K)
            refine' walk_val (by rfl) ?ad12 (fun K hK => ?bd12); (case ad12 => (intro W hW hd; clear hd; go_simp; first | exact ⟨Ext.rf _, rfl⟩ | rfl)); (go_simp; refine hK _ ?_; clear hK K)
            refine' walk_val (by rfl) ?ad13 (fun K hK => ?bd13); (case ad13 => (intro W hW hd; clear hd; go_simp; first | exact ⟨Ext.rf _, rfl⟩ | rfl)); (go_simp; refine hK _ ?_; clear hK K)
            refine' walk_val (by rfl) ?ad14 (fun K hK => ?bd14); (case ad14 => (intro W hW hd; clear hd; go_simp; first | exact ⟨Ext.rf _, rfl⟩ | rfl)); (go_simp; refine hK _ ?_; clear hK K)
            refine' walk_val (by rfl) ?ad15 (fun K hK => ?bd15); (case ad15 => (intro W hW hd; clear hd; go_simp; first | exact ⟨Ext.rf _, rfl⟩ | rfl)); (go_simp; refine hK _ ?_; clear hK K)
            refine' walk_val (by rfl) ?ad16 (fun K hK => ?bd16); (case ad16 => (intro W hW hd; clear hd; go_simp; first | exact ⟨Ext.rf _, rfl⟩ | rfl)); (go_simp; refine hK _ ?_; clear hK K)
            refine' walk_val (by rfl) ?ad17 (fun K hK => ?bd17); (case ad17 => (intro W hW hd; clear hd; go_simp; first | exact ⟨Ext.rf _, rfl⟩ | rfl)); (go_simp; refine hK _ ?_; clear hK K)
            refine' walk_val (by rfl) ?ad18 (fun K hK => ?bd18); (case ad18 => (intro W hW hd; clear hd; go_simp; first | exact ⟨Ext.rf _, rfl⟩ | rfl)); (go_simp; refine hK _ ?_; clear hK K)
            refine' walk_val (by rfl) ?ad19 (fun K hK => ?bd19); (case ad19 => (intro W hW hd; go_simp; (clear hd; exact makes_val (hTr _)))); (go_simp; refine hK _ ?_; clear hK K)
            refine' walk_val (by rfl) ?ad20 (fun K hK => ?bd20); (case ad20 => (intro W hW hd; clear hd; go_simp; first | exact ⟨Ext.rf _, rfl⟩ | rfl)); (go_simp; refine hK _ ?_; clear hK K)
            refine' walk_val (by rfl) ?ad21 (fun K hK => ?bd21); (case ad21 => (intro W hW hd; clear hd; go_simp; first | exact ⟨Ext.rf _, rfl⟩ | rfl)); (go_simp; refine hK _ ?_; clear hK K)
            refine' walk_val (by rfl) ?ad22 (fun K hK => ?bd22); (case ad22 => (intro W hW hd; clear hd; go_simp; first | exact ⟨Ext.rf _, rfl⟩ | rfl)); (go_simp; refine hK _ ?_; clear hK K)
            refine' walk_val (by rfl) ?ad23 (fun K hK => ?bd23); (case ad23 => (intro W hW hd; clear hd; go_simp; first | exact ⟨Ext.rf _, rfl⟩ | rfl)); (go_simp; refine hK _ ?_; clear hK K)
            refine walk_end (fun W hW hfin => ?_)
            have B6 : Ext w W := Ext.tr hb0 hW
            clear hfin
            have c1 := k1 W hW
            clear hT hTr k0 k1 hqq hb0 hW
            go_wp2
            go_loop [3] (fun i => ∃ k : Nat, k ≤ t.size ∧ i = .int .i64 k ∧ Hid (AllTo valN t k)) (fun i => t.size - (intOf i).toNat)
            case atStart => exact ⟨0, Nat.zero_le _, rfl, AllTo.zero _ _⟩
            case round =>
              obtain ⟨k, hk, rfl, HG⟩ := hrel
              by_cases hlt : k < t.size
              · have HM := Lib.hid (HG.out.more hlt)
                have HB := Lib.hid (AllTo.bad (p := valN) hlt)
                have HV : ∀ n, n = t[k].toNat → Hid (valN t[k].toNat = (decide (32 ≤ n ∧ n ≤ 126) || decide (n = 9))) := fun n e => by subst e; rfl
                have HV2 := Lib.hid (HV _ rfl)
                clear HG HV
                generalize hx : t[k].toNat = n at *
                by_cases g1 : n < 32
                · by_cases g2 : n = 9
                  · have b2 : ((n : Int) != 9) = false := by rw [bne_eq_false_iff_eq]; omega
                    have HK : Hid (AllTo valN t (k + 1)) := HM.out (by rw [HV2.out.out]; simp [g2])
                    clear HM HB HV2
                    go_wp2
                    go_round
                    case rel => exact ⟨k + 1, by omega, by go_num, HK⟩
                    case measure => simp [intOf]; omega
                  · have b2 : ((n : Int) != 9) = true := by rw [bne_iff_ne]; omega
                    have HF : Hid (rightD (s, t) = false) := by unfold Hid; rw [HA.out]; exact HB.out (by rw [HV2.out.out]; simp; omega)
                    clear HM HB HV2
                    go_wp2
                    go_ret
                    exact ⟨ret_bool HF.out.symm, B6⟩
                · by_cases g3 : 126 < n
                  · have b2 : ((n : Int) != 9) = true := by rw [bne_iff_ne]; omega
                    have HF : Hid (rightD (s, t) = false) := by unfold Hid; rw [HA.out]; exact HB.out (by rw [HV2.out.out]; simp; omega)
                    clear HM HB HV2
                    go_wp2
                    go_ret
                    exact ⟨ret_bool HF.out.symm, B6⟩
                  · have HK : Hid (AllTo valN t (k + 1)) := HM.out (by rw [HV2.out.out]; simp; omega)
                    clear HM HB HV2
                    go_wp2
                    go_round
                    case rel => exact ⟨k + 1, by omega, by go_num, HK⟩
                    case measure => simp [intOf]; omega
              · obtain rfl : k = t.size := by omega
                have HF : Hid (rightD (s, t) = true) := by unfold Hid; rw [HA.out]; exact HG.out.all
                go_wp2
                go_ret
                exact ⟨ret_bool HF.out.symm, B6⟩
        · have HF := Lib.hid (rightD_trim (s := s) h4)
          have q1 : ((s.size : Int) ≤ 200) := by omega
          have q2 : ((t.size : Int) ≤ 8192) := by omega
          have hqq := eqB_f h4
          generalize (⟨(trimB t.data.toList).toArray⟩ : ByteArray) = tb at *
          clear h4 hq
          go_enter Tryd.func29, Tryd.ntmps29
          go_wp2_with fail
          refine' wp_region_made (rels := relsOf ((.val _) :: (.val _) :: (.val _) :: (.val _) :: (.val _) :: (.val _) :: (.val _) :: (.val _) :: (.val _) :: (.val _) :: (.val _) :: (.val _) :: (.val _) :: (.val _) :: (.val _) :: (.val _) :: (.val _) :: (.val _) :: (.val _) :: (.val _) :: (.val _) :: (.val _) :: (.val _) :: (.val _) :: [])) (w := (w.alloc (.cells #[.string s, .string t] 43))) 54 (by kernel_rfl) (by kernel_rfl) (by rfl) (relsOf_stable ?ste) ?wke
          case ste => exact stable_val (stable_val (stable_val (stable_val (stable_val (stable_val (stable_val (stable_val (stable_val (stable_val (stable_val (stable_val (stable_val (stable_val (stable_val (stable_val (stable_val (stable_val (stable_val (stable_val (stable_val (stable_val (stable_val (stable_val (stable_nil))))))))))))))))))))))))
          case wke =>
            refine' walk_val (by rfl) ?ae0 (fun K hK => ?be0); (case ae0 => (intro W hW hd; clear hd; go_simp; first | exact ⟨Ext.rf _, rfl⟩ | rfl)); (go_simp; refine hK _ ?_; clear hK K)
            refine' walk_val (by rfl) ?ae1 (fun K hK => ?be1); (case ae1 => (intro W hW hd; clear hd; go_simp; first | exact ⟨Ext.rf _, rfl⟩ | rfl)); (go_simp; refine hK _ ?_; clear hK K)
            refine' walk_val (by rfl) ?ae2 (fun K hK => ?be2); (case ae2 => (intro W hW hd; go_simp; (clear hd; exact makes_val (hT W)))); (go_simp; refine hK _ ?_; clear hK K)
            refine' walk_val (by rfl) ?ae3 (fun K hK => ?be3); (case ae3 => (intro W hW hd; clear hd; go_simp; first | exact ⟨Ext.rf _, rfl⟩ | rfl)); (go_simp; refine hK _ ?_; clear hK K)
            refine' walk_val (by rfl) ?ae4 (fun K hK => ?be4); (case ae4 => (intro W hW hd; clear hd; go_simp; first | exact ⟨Ext.rf _, rfl⟩ | rfl)); (go_simp; refine hK _ ?_; clear hK K)
            refine' walk_val (by rfl) ?ae5 (fun K hK => ?be5); (case ae5 => (intro W hW hd; clear hd; go_simp; first | exact ⟨Ext.rf _, rfl⟩ | rfl)); (go_simp; refine hK _ ?_; clear hK K)
            refine' walk_val (by rfl) ?ae6 (fun K hK => ?be6); (case ae6 => (intro W hW hd; clear hd; go_simp; first | exact ⟨Ext.rf _, rfl⟩ | rfl)); (go_simp; refine hK _ ?_; clear hK K)
            refine' walk_val (by rfl) ?ae7 (fun K hK => ?be7); (case ae7 => (intro W hW hd; clear hd; go_simp; first | exact ⟨Ext.rf _, rfl⟩ | rfl)); (go_simp; refine hK _ ?_; clear hK K)
            refine' walk_val (by rfl) ?ae8 (fun K hK => ?be8); (case ae8 => (intro W hW hd; clear hd; go_simp; first | exact ⟨Ext.rf _, rfl⟩ | rfl)); (go_simp; refine hK _ ?_; clear hK K)
            refine' walk_val (by rfl) ?ae9 (fun K hK => ?be9); (case ae9 => (intro W hW hd; clear hd; go_simp; first | exact ⟨Ext.rf _, rfl⟩ | rfl)); (go_simp; refine hK _ ?_; clear hK K)
            refine' walk_val (by rfl) ?ae10 (fun K hK => ?be10); (case ae10 => (intro W hW hd; clear hd; go_simp; first | exact ⟨Ext.rf _, rfl⟩ | rfl)); (go_simp; refine hK _ ?_; clear hK K)
            refine' walk_val (by rfl) ?ae11 (fun K hK => ?be11); (case ae11 => (intro W hW hd; clear hd; go_simp; first | exact ⟨Ext.rf _, rfl⟩ | rfl)); (go_simp; refine hK _ ?_; clear hK K)
            refine' walk_val (by rfl) ?ae12 (fun K hK => ?be12); (case ae12 => (intro W hW hd; clear hd; go_simp; first | exact ⟨Ext.rf _, rfl⟩ | rfl)); (go_simp; refine hK _ ?_; clear hK K)
            refine' walk_val (by rfl) ?ae13 (fun K hK => ?be13); (case ae13 => (intro W hW hd; clear hd; go_simp; first | exact ⟨Ext.rf _, rfl⟩ | rfl)); (go_simp; refine hK _ ?_; clear hK K)
            refine' walk_val (by rfl) ?ae14 (fun K hK => ?be14); (case ae14 => (intro W hW hd; clear hd; go_simp; first | exact ⟨Ext.rf _, rfl⟩ | rfl)); (go_simp; refine hK _ ?_; clear hK K)
            refine' walk_val (by rfl) ?ae15 (fun K hK => ?be15); (case ae15 => (intro W hW hd; clear hd; go_simp; first | exact ⟨Ext.rf _, rfl⟩ | rfl)); (go_simp; refine hK _ ?_; clear hK K)
            refine' walk_val (by rfl) ?ae16 (fun K hK => ?be16); (case ae16 => (intro W hW hd; clear hd; go_simp; first | exact ⟨Ext.rf _, rfl⟩ | rfl)); (go_simp; refine hK _ ?_; clear hK K)
            refine' walk_val (by rfl) ?ae17 (fun K hK => ?be17); (case ae17 => (intro W hW hd; clear hd; go_simp; first | exact ⟨Ext.rf _, rfl⟩ | rfl)); (go_simp; refine hK _ ?_; clear hK K)
            refine' walk_val (by rfl) ?ae18 (fun K hK => ?be18); (case ae18 => (intro W hW hd; clear hd; go_simp; first | exact ⟨Ext.rf _, rfl⟩ | rfl)); (go_simp; refine hK _ ?_; clear hK K)
            refine' walk_val (by rfl) ?ae19 (fun K hK => ?be19); (case ae19 => (intro W hW hd; go_simp; (clear hd; exact makes_val (hTr _)))); (go_simp; refine hK _ ?_; clear hK K)
            refine' walk_val (by rfl) ?ae20 (fun K hK => ?be20); (case ae20 => (intro W hW hd; clear hd; go_simp; first | exact ⟨Ext.rf _, rfl⟩ | rfl)); (go_simp; refine hK _ ?_; clear hK K)
            refine' walk_val (by rfl) ?ae21 (fun K hK => ?be21); (case ae21 => (intro W hW hd; clear hd; go_simp; first | exact ⟨Ext.rf _, rfl⟩ | rfl)); (go_simp; refine hK _ ?_; clear hK K)
            refine' walk_val (by rfl) ?ae22 (fun K hK => ?be22); (case ae22 => (intro W hW hd; clear hd; go_simp; first | exact ⟨Ext.rf _, rfl⟩ | rfl)); (go_simp; refine hK _ ?_; clear hK K)
            refine' walk_val (by rfl) ?ae23 (fun K hK => ?be23); (case ae23 => (intro W hW hd; clear hd; go_simp; first | exact ⟨Ext.rf _, rfl⟩ | rfl)); (go_simp; refine hK _ ?_; clear hK K)
            refine walk_end (fun W hW hfin => ?_)
            have B6 : Ext w W := Ext.tr hb0 hW
            clear hfin
            go_wp2
            go_ret
            exact ⟨ret_bool HF.out.symm, B6⟩
end Go.Proofs.YtmlbinbhicdljaaDoor
