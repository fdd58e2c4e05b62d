/-
  Layer 6: the law QuotedRunes: the walk.
-/
import Derived.Test.YtpbkdgbmnffooaaLd
namespace Go.Proofs.Ytpbkdgbmnffooaa
open Go.ChangeShapes Go.WideShapes Go.ChangeAt Go.RowKit

theorem esc_text (m : UInt8) (H : ByteArray) (l : List UInt8) (hl : H.data.toList = l) : ((⟨#[m, 92, 85]⟩ : ByteArray) ++ H ++ ⟨#[m]⟩).data.toList = m :: 92 :: 85 :: (l ++ [m]) := by
  rw [ByteArray.data_append, ByteArray.data_append, Array.toList_append, Array.toList_append, hl]; rfl
theorem self_text (H : ByteArray) (l : List UInt8) (hl : H.data.toList = l) : ((⟨#[39]⟩ : ByteArray) ++ H ++ ⟨#[39]⟩).data.toList = 39 :: (l ++ [39]) := by
  rw [ByteArray.data_append, ByteArray.data_append, Array.toList_append, Array.toList_append, hl]; rfl
theorem val_at (T : ByteArray) (hs : T.size ≤ 4096) (l : List UInt8) (o : Option (List UInt8)) (hl : T.data.toList = l) (h : valueP l = o) (w : World) :
    Calls Try.prog 13 #[.string T] w fun e w' => e = .returned (valueAns o) ∧ Below w.heap.size w w' := by
  have := value_any T (by omega) w
  rw [hl, h] at this
  exact this
set_option maxRecDepth 100000 in
set_option maxHeartbeats 4000000 in
theorem runes_out (r : Int) (h0 : -2147483648 ≤ r) (h1 : r ≤ 2147483647) (hout : r < 0 ∨ 1114111 < r) (w : World) :
    Calls Try.prog 8 #[.int .i32 r] w fun e w' => e = .returned (.bool true) ∧ Below w.heap.size w w' := by
  obtain ⟨N, hN⟩ : ∃ N : Nat, (N : Int) = r % 4294967296 := ⟨(r % 4294967296).toNat, by omega⟩
  have hNl : N < 4294967296 := by omega
  have hNb : 1114111 < N := by omega
  have hch : isChar (N : Int) = false := by unfold isChar; simp; omega
  obtain ⟨H, hH⟩ : ∃ H : ByteArray, H = ⟨(hexs 8 N).toArray⟩ := ⟨_, rfl⟩
  have hHs : H.size = 8 := by rw [hH]; exact hexs_len 8 N
  have hhex := fun w => hex_any N hNl w
  rw [← hH] at hhex
  have hv := fun w => val_at ((⟨#[39, 92, 85]⟩ : ByteArray) ++ H ++ ⟨#[39]⟩) (by rw [ByteArray.size_append, ByteArray.size_append, hHs]; decide) _ none (esc_text 39 H (hexs 8 N) (by rw [hH])) (by rw [rune_num N hNl, hch]; rfl) w
  have hv' : ∀ w, Calls Try.prog 13 #[.string ((⟨#[39, 92, 85]⟩ : ByteArray) ++ H ++ ⟨#[39]⟩)] w fun e w' => e = .returned (.tuple #[.string ⟨#[]⟩, .int .i64 4]) ∧ Below w.heap.size w w' := hv
  have wu : IntKind.u32.wrap r = (N : Int) := by rw [IntKind.wrap_u32]; omega
  have hf := fun w => rform_any r w
  obtain ⟨F, hF⟩ : ∃ F : ByteArray, F = ⟨(form r).toArray⟩ := ⟨_, rfl⟩
  rw [← hF] at hf
  have HH := Lib.hid hHs
  have hHs' : H.size ≤ 8 := by omega
  clear hv hH hch hN hF hHs
  go_enter Try.func8, Try.ntmps8
  go_wp2_with (first
    | (go_at_call 17; refine (hf _).mono ?_; rintro e w1 ⟨rfl, hA⟩)
    | (go_at_call 12; refine (fixed_any _).mono ?_; rintro e w1 ⟨rfl, hB⟩; replace hA := hA.trans (hB.mono hA.size); clear hB)
    | (go_at_call 18; refine (hhex _).mono ?_; rintro e w1 ⟨rfl, hB⟩; replace hA := hA.trans (hB.mono hA.size); clear hB)
    | (go_at_call 13; refine (hv' _).mono ?_; rintro e w1 ⟨rfl, hB⟩; replace hA := hA.trans (hB.mono hA.size); clear hB))
  all_goals
    go_ret
    exact ⟨rfl, hA⟩
set_option maxRecDepth 100000 in
set_option maxHeartbeats 4000000 in
theorem runes_in (N : Nat) (hN : N ≤ 1114111) (w : World) :
    Calls Try.prog 8 #[.int .i32 N] w fun e w' => e = .returned (.bool true) ∧ Below w.heap.size w w' := by
  obtain ⟨H, hH⟩ : ∃ H : ByteArray, H = ⟨(hexs 8 N).toArray⟩ := ⟨_, rfl⟩
  have hHs : H.size = 8 := by rw [hH]; exact hexs_len 8 N
  have hhex := fun w => hex_any N (by omega) w
  rw [← hH] at hhex
  have r0 : ¬ (N : Int) < 0 := by omega
  have r1 : ¬ (1114111 : Int) < (N : Int) := by omega
  have hf := fun w => rform_any (N : Int) w
  obtain ⟨F, hF⟩ : ∃ F : ByteArray, F = ⟨(form (N : Int)).toArray⟩ := ⟨_, rfl⟩
  have hFl : F.data.toList = form (N : Int) := by rw [hF]
  have hFs : F.size = (form (N : Int)).length := by rw [hF]; rfl
  have hF4 : F.size ≤ 4 := by rw [hFs]; exact form_le _
  rw [← hF] at hf
  have t1 : True := trivial
  have t2 : True := trivial
  have a1 := fun o (h : valueP (39 :: 92 :: 85 :: (hexs 8 N ++ [39])) = o) w => val_at ((⟨#[39, 92, 85]⟩ : ByteArray) ++ H ++ ⟨#[39]⟩) (by rw [ByteArray.size_append, ByteArray.size_append, hHs]; decide) _ o (esc_text 39 H (hexs 8 N) (by rw [hH])) h w
  have a2 := fun o (h : valueP (34 :: 92 :: 85 :: (hexs 8 N ++ [34])) = o) w => val_at ((⟨#[34, 92, 85]⟩ : ByteArray) ++ H ++ ⟨#[34]⟩) (by rw [ByteArray.size_append, ByteArray.size_append, hHs]; decide) _ o (esc_text 34 H (hexs 8 N) (by rw [hH])) h w
  have a3 := fun o (h : valueP (39 :: (form (N : Int) ++ [39])) = o) w => val_at ((⟨#[39]⟩ : ByteArray) ++ F ++ ⟨#[39]⟩) (by rw [ByteArray.size_append, ByteArray.size_append]; have : (⟨#[39]⟩ : ByteArray).size = 1 := rfl; omega) _ o (self_text F (form (N : Int)) hFl) h w
  have n1 := rune_num N (by omega)
  have n2 := str_num N (by omega)
  have hHs' : H.size ≤ 8 := by omega
  cases hch : isChar (N : Int) with
  | false =>
    rw [hch] at n1 n2
    have v1 : ∀ w, Calls Try.prog 13 #[.string ((⟨#[39, 92, 85]⟩ : ByteArray) ++ H ++ ⟨#[39]⟩)] w fun e w' => e = .returned (.tuple #[.string ⟨#[]⟩, .int .i64 4]) ∧ Below w.heap.size w w' := a1 none n1
    have v2 : ∀ w, Calls Try.prog 13 #[.string ((⟨#[34, 92, 85]⟩ : ByteArray) ++ H ++ ⟨#[34]⟩)] w fun e w' => e = .returned (.tuple #[.string ⟨#[]⟩, .int .i64 4]) ∧ Below w.heap.size w w' := a2 none n2
    have hFe : F = ⟨#[]⟩ := by rw [hF, form_none hch]
    subst hFe
    clear a1 a2 a3 n1 n2 hch hH hHs hFl hFs hF
    go_enter Try.func8, Try.ntmps8
    go_wp2_with (first
      | (go_at_call 17; refine (hf _).mono ?_; rintro e w1 ⟨rfl, hA⟩)
      | (go_at_call 12; refine (fixed_any _).mono ?_; rintro e w1 ⟨rfl, hB⟩; replace hA := hA.trans (hB.mono hA.size); clear hB)
      | (go_at_call 18; refine (hhex _).mono ?_; rintro e w1 ⟨rfl, hB⟩; replace hA := hA.trans (hB.mono hA.size); clear hB)
      | (go_at_call 13; clear t1; refine (v1 _).mono ?_; rintro e w1 ⟨rfl, hB⟩; replace hA := hA.trans (hB.mono hA.size); clear hB)
      | (go_at_call 13; refine (v2 _).mono ?_; rintro e w1 ⟨rfl, hB⟩; replace hA := hA.trans (hB.mono hA.size); clear hB))
    go_ret
    exact ⟨rfl, hA⟩
  | true =>
    rw [hch] at n1 n2
    have v1 : ∀ w, Calls Try.prog 13 #[.string ((⟨#[39, 92, 85]⟩ : ByteArray) ++ H ++ ⟨#[39]⟩)] w fun e w' => e = .returned (.tuple #[.string F, .int .i64 0]) ∧ Below w.heap.size w w' := by rw [hF]; exact a1 (some _) n1
    have v2 : ∀ w, Calls Try.prog 13 #[.string ((⟨#[34, 92, 85]⟩ : ByteArray) ++ H ++ ⟨#[34]⟩)] w fun e w' => e = .returned (.tuple #[.string F, .int .i64 0]) ∧ Below w.heap.size w w' := by rw [hF]; exact a2 (some _) n2
    have hne := form_some hch
    have f1 : (F.toList == []) = false := by rw [ByteArray.toList_eq, hFl]; simpa using hne
    have f2 : F.toList.isEmpty = false := by rw [ByteArray.toList_eq, hFl]; simpa using hne
    by_cases hs : N = 39 ∨ N = 92 ∨ N = 10
    · have hn3 : valueP (39 :: (form (N : Int) ++ [39])) = none := by
        rcases hs with rfl | rfl | rfl
        · exact rune_not.1
        · exact rune_not.2.1
        · exact rune_not.2.2
      have v3 : ∀ w, Calls Try.prog 13 #[.string ((⟨#[39]⟩ : ByteArray) ++ F ++ ⟨#[39]⟩)] w fun e w' => e = .returned (.tuple #[.string ⟨#[]⟩, .int .i64 4]) ∧ Below w.heap.size w w' := a3 none hn3
      have q : ((N : Int) == 39) = true ∨ (((N : Int) == 39) = false ∧ ((N : Int) == 92) = true) ∨ (((N : Int) == 39) = false ∧ ((N : Int) == 92) = false ∧ ((N : Int) == 10) = true) := by
        rcases hs with rfl | rfl | rfl
        · exact .inl rfl
        · exact .inr (.inl ⟨rfl, rfl⟩)
        · exact .inr (.inr ⟨rfl, rfl, rfl⟩)
      clear a1 a2 a3 n1 n2 hch hH hHs hFl hFs hF hs hn3 hne
      rcases q with q1 | ⟨q1, q2⟩ | ⟨q1, q2, q3⟩
      all_goals
        go_enter Try.func8, Try.ntmps8
        go_wp2_with (first
          | (go_at_call 17; refine (hf _).mono ?_; rintro e w1 ⟨rfl, hA⟩)
          | (go_at_call 12; refine (fixed_any _).mono ?_; rintro e w1 ⟨rfl, hB⟩; replace hA := hA.trans (hB.mono hA.size); clear hB)
          | (go_at_call 18; refine (hhex _).mono ?_; rintro e w1 ⟨rfl, hB⟩; replace hA := hA.trans (hB.mono hA.size); clear hB)
          | (go_at_call 13; clear t1; refine (v1 _).mono ?_; rintro e w1 ⟨rfl, hB⟩; replace hA := hA.trans (hB.mono hA.size); clear hB)
          | (go_at_call 13; clear t2; refine (v2 _).mono ?_; rintro e w1 ⟨rfl, hB⟩; replace hA := hA.trans (hB.mono hA.size); clear hB)
          | (go_at_call 13; refine (v3 _).mono ?_; rintro e w1 ⟨rfl, hB⟩; replace hA := hA.trans (hB.mono hA.size); clear hB))
        go_ret
        exact ⟨rfl, hA⟩
    · have hn3 : valueP (39 :: (form (N : Int) ++ [39])) = some (form (N : Int)) := rune_self N hch (fun e => hs (.inl (by omega))) (fun e => hs (.inr (.inl (by omega)))) (fun e => hs (.inr (.inr (by omega))))
      have v3 : ∀ w, Calls Try.prog 13 #[.string ((⟨#[39]⟩ : ByteArray) ++ F ++ ⟨#[39]⟩)] w fun e w' => e = .returned (.tuple #[.string F, .int .i64 0]) ∧ Below w.heap.size w w' := by rw [hF] at a3 ⊢; exact a3 (some _) hn3
      have q1 : ((N : Int) == 39) = false := by rw [beq_eq_false_iff_ne]; omega
      have q2 : ((N : Int) == 92) = false := by rw [beq_eq_false_iff_ne]; omega
      have q3 : ((N : Int) == 10) = false := by rw [beq_eq_false_iff_ne]; omega
      clear a1 a2 a3 n1 n2 hch hH hHs hFl hFs hF hs hn3 hne
      go_enter Try.func8, Try.ntmps8
      go_wp2_with (first
        | (go_at_call 17; refine (hf _).mono ?_; rintro e w1 ⟨rfl, hA⟩)
        | (go_at_call 12; refine (fixed_any _).mono ?_; rintro e w1 ⟨rfl, hB⟩; replace hA := hA.trans (hB.mono hA.size); clear hB)
        | (go_at_call 18; refine (hhex _).mono ?_; rintro e w1 ⟨rfl, hB⟩; replace hA := hA.trans (hB.mono hA.size); clear hB)
        | (go_at_call 13; clear t1; refine (v1 _).mono ?_; rintro e w1 ⟨rfl, hB⟩; replace hA := hA.trans (hB.mono hA.size); clear hB)
        | (go_at_call 13; clear t2; refine (v2 _).mono ?_; rintro e w1 ⟨rfl, hB⟩; replace hA := hA.trans (hB.mono hA.size); clear hB)
        | (go_at_call 13; refine (v3 _).mono ?_; rintro e w1 ⟨rfl, hB⟩; replace hA := hA.trans (hB.mono hA.size); clear hB))
      go_ret
      exact ⟨rfl, hA⟩
theorem runes_any (r : Int) (h0 : -2147483648 ≤ r) (h1 : r ≤ 2147483647) (w : World) :
    Calls Try.prog 8 #[.int .i32 r] w fun e w' => e = .returned (.bool true) ∧ Below w.heap.size w w' := by
  by_cases h : r < 0 ∨ 1114111 < r
  · exact runes_out r h0 h1 h w
  · obtain ⟨N, rfl⟩ : ∃ N : Nat, r = (N : Int) := ⟨r.toNat, by omega⟩
    exact runes_in N (by omega) w
theorem wf32 {a : Int} (h : (Lit.int .i32 a).wf = true) : -2147483648 ≤ a ∧ a ≤ 2147483647 := by
  unfold Lit.wf at h
  rw [Bool.and_eq_true, decide_eq_true_eq, decide_eq_true_eq] at h
  exact h
end Go.Proofs.Ytpbkdgbmnffooaa
