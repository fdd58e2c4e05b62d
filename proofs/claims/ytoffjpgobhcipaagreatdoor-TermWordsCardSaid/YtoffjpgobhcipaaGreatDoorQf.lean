/-
  Texts T U V of an earlier seat, under this one's numbers.
-/
import Derived.Test.YtoffjpgobhcipaaGreatDoorQe
set_option maxRecDepth 100000
/-
  Layer 6: the document's escape, the other cases.
-/
namespace Go.Proofs.YtoffjpgobhcipaaGreatDoor
open Go.ChangeShapes Go.WideShapes Go.ChangeAt Go.RowKit

set_option maxRecDepth 100000 in
set_option maxHeartbeats 4000000 in
theorem docesc_u4 (s : ByteArray) (hs : s.size ≤ 140737488351232) (k : Nat) (hk : k + 1 < s.size) (m : UInt8) (hm : s[k + 1] ≠ m) (hN : NoName s[k + 1]) (hc : s[k + 1] = 117) (w : World) :
    Calls Tryz.prog 115 #[.string s, .int .i64 k, .int .u8 m.toNat] w fun e w' => e = .returned (item ((numOf 16 4 0 (s.data.toList.drop (k + 2))).bind fun nr => if isChar nr.1 = true then some (form nr.1, 6) else none)) ∧ Below w.heap.size w w' := by
  obtain ⟨K, hK⟩ : ∃ K, k + 1 = K := ⟨_, rfl⟩
  have e1 : (k : Int) + 1 = (K : Int) := by omega
  have hKs : K < s.size := by omega
  have d1 : (K : Int) < s.size := by omega
  have d2 : (0 : Int) ≤ K := by omega
  have HN := Lib.hid (show NoName s[K] by subst hK; exact hN)
  have qm : ((s[K].toNat : Int) == (m.toNat : Int)) = false := by rw [bytes_eq]; exact decide_eq_false (by subst hK; exact hm)
  have q120 : ((s[K].toNat : Int) == 120) = false := by rw [bytes_n s[K] 120 120 rfl]; exact decide_eq_false (by subst hK; rw [hc]; decide)
  have q117 : ((s[K].toNat : Int) == 117) = true := by rw [bytes_n s[K] 117 117 rfl]; exact decide_eq_true (by subst hK; exact hc)
  have q85 : ((s[K].toNat : Int) == 85) = false := by rw [bytes_n s[K] 85 85 rfl]; exact decide_eq_false (by subst hK; rw [hc]; decide)
  obtain ⟨K2, hK2⟩ : ∃ K2, k + 2 = K2 := ⟨_, rfl⟩
  have e2 : (k : Int) + 2 = (K2 : Int) := by omega
  have hnum := docnum_any s hs K2 4 16 (by omega) (by decide) (by decide) (W0 w)
  rw [hK2]
  obtain ⟨A, hA⟩ : ∃ A, A = numOf 16 4 0 (s.data.toList.drop K2) := ⟨_, rfl⟩
  rw [← hA] at hnum ⊢
  have HA := Lib.hid hA
  unfold W0 at hnum
  clear hm hN hk hA hc
  go_enter Tryz.func115, Tryz.ntmps115
  go_wp2
  go_loop [10] (fun i => ∃ n : Nat, n ≤ 8 ∧ i = .int .i64 n) (fun i => 8 - (intOf i).toNat)
  case atStart => exact ⟨0, by omega, rfl⟩
  case round =>
    obtain ⟨n, hn, rfl⟩ := hrel
    by_cases hlt : n < 8
    · have q := noname_eq HN.out n hlt
      have i1 : (n : Int) < 8 := by omega
      clear hnum
      go_wp2
      go_round
      case rel => exact ⟨n + 1, by omega, by go_num⟩
      case measure => simp [intOf]; omega
    · have i1 : ¬ (n : Int) < 8 := by omega
      have HR := Lib.hid (W0_row w)
      have HB0 := Lib.hid (W0_below w)
      cases A with
      | none =>
        go_wp2_with (first
          | (go_at_call 132; refine hnum.mono ?_; rintro e w2 ⟨he, hB2⟩; have he' : e = .returned (.int .i64 (-1)) := he; clear he; subst he'; have HX := Lib.hid (row_below HR.out hB2 (by simp; omega)); have HXB := Lib.hid (HB0.out.trans (hB2.mono (by simp; omega))); clear hB2)
          | refine wpList_store_rowTo rfl 107 (.tmp 6) (.tmp 82) rfl rfl w.heap.size #[.int .i64 0, .string ⟨#[]⟩] rfl rfl 107 #[.int .i64 0, .string ⟨#[]⟩] HX.out info56 rfl (by simp [Value.oneCell']) ?_)
        go_wp2
        exact bodyPost_ret (v := .agg #[.int .i64 0, .string ⟨#[]⟩]) (results_cell_row rfl _ _ w.heap.size 107 _ (0, 0) _ rfl (setRow_at HX.out) Tryz.underlying107 rfl info56) rfl ⟨rfl, below_setRow HXB.out (Nat.le_refl _) _⟩
      | some nr =>
        obtain ⟨N, r⟩ := nr
        have hmay := fun w => may_any (N : Int) w
        cases hch : isChar (N : Int) with
        | false =>
          rw [hch] at hmay
          have HE := Lib.hid (show item ((some (N, r)).bind fun nr => if isChar nr.1 = true then some (form nr.1, 6) else none) = item none by
            show item (if isChar (N : Int) = true then _ else none) = item none
            rw [hch]; rfl)
          clear hch
          go_wp2_with (first
            | (go_at_call 132; refine hnum.mono ?_; rintro e w2 ⟨he, hB2⟩; have he' : e = .returned (.int .i64 N) := he; clear he; subst he'; have HX := Lib.hid (row_below HR.out hB2 (by simp; omega)); have HXB := Lib.hid (HB0.out.trans (hB2.mono (by simp; omega))); clear hB2 hnum)
            | (go_at_call 134; refine (hmay _).mono ?_; rintro e w3 ⟨rfl, rfl⟩)
            | refine wpList_store_rowTo rfl 107 (.tmp 6) (.tmp 82) rfl rfl w.heap.size #[.int .i64 0, .string ⟨#[]⟩] rfl rfl 107 #[.int .i64 0, .string ⟨#[]⟩] HX.out info56 rfl (by simp [Value.oneCell']) ?_)
          go_wp2
          exact bodyPost_ret (v := .agg #[.int .i64 0, .string ⟨#[]⟩]) (results_cell_row rfl _ _ w.heap.size 107 _ (0, 0) _ rfl (setRow_at HX.out) Tryz.underlying107 rfl info56) rfl ⟨by rw [HE.out]; rfl, below_setRow HXB.out (Nat.le_refl _) _⟩
        | true =>
          rw [hch] at hmay
          have HE := Lib.hid (show item ((some (N, r)).bind fun nr => if isChar nr.1 = true then some (form nr.1, 6) else none) = item (some (form N, 6)) by
            show item (if isChar (N : Int) = true then _ else none) = _
            rw [hch]; rfl)
          have hfm := fun w => rform_any (N : Int) w
          clear hch
          go_wp2_with (first
            | (go_at_call 132; refine hnum.mono ?_; rintro e w2 ⟨he, hB2⟩; have he' : e = .returned (.int .i64 N) := he; clear he; subst he'; have HX := Lib.hid (row_below HR.out hB2 (by simp; omega)); have HXB := Lib.hid (HB0.out.trans (hB2.mono (by simp; omega))); have hz : w.heap.size + 1 < w2.heap.size := (by have := hB2.size; simp at this; omega); clear hB2 hnum)
            | (go_at_call 134; refine (hmay _).mono ?_; rintro e w3 ⟨rfl, rfl⟩)
            | (go_at_call 121; refine (hfm _).mono ?_; rintro e w3 ⟨rfl, hB3⟩; have HX2 := Lib.hid (row_below HX.out hB3 (by omega)); have HXB2 := Lib.hid (HXB.out.trans (hB3.mono (by omega))); clear hB3 hz)
            | refine wpList_store_rowTo rfl 107 (.tmp 6) (.tmp 87) rfl rfl w.heap.size #[.int .i64 6, .string ⟨(form N).toArray⟩] rfl rfl 107 #[.int .i64 0, .string ⟨#[]⟩] HX2.out info56 rfl (by simp [Value.oneCell']) ?_)
          go_wp2
          exact bodyPost_ret (v := .agg #[.int .i64 6, .string ⟨(form N).toArray⟩]) (results_cell_row rfl _ _ w.heap.size 107 _ (0, 0) _ rfl (setRow_at HX2.out) Tryz.underlying107 rfl info56) rfl ⟨by rw [HE.out]; rfl, below_setRow HXB2.out (Nat.le_refl _) _⟩
set_option maxRecDepth 100000 in
set_option maxHeartbeats 4000000 in
theorem docesc_u8 (s : ByteArray) (hs : s.size ≤ 140737488351232) (k : Nat) (hk : k + 1 < s.size) (m : UInt8) (hm : s[k + 1] ≠ m) (hN : NoName s[k + 1]) (hc : s[k + 1] = 85) (w : World) :
    Calls Tryz.prog 115 #[.string s, .int .i64 k, .int .u8 m.toNat] w fun e w' => e = .returned (item ((numOf 16 8 0 (s.data.toList.drop (k + 2))).bind fun nr => if isChar nr.1 = true then some (form nr.1, 10) else none)) ∧ Below w.heap.size w w' := by
  obtain ⟨K, hK⟩ : ∃ K, k + 1 = K := ⟨_, rfl⟩
  have e1 : (k : Int) + 1 = (K : Int) := by omega
  have hKs : K < s.size := by omega
  have d1 : (K : Int) < s.size := by omega
  have d2 : (0 : Int) ≤ K := by omega
  have HN := Lib.hid (show NoName s[K] by subst hK; exact hN)
  have qm : ((s[K].toNat : Int) == (m.toNat : Int)) = false := by rw [bytes_eq]; exact decide_eq_false (by subst hK; exact hm)
  have q120 : ((s[K].toNat : Int) == 120) = false := by rw [bytes_n s[K] 120 120 rfl]; exact decide_eq_false (by subst hK; rw [hc]; decide)
  have q117 : ((s[K].toNat : Int) == 117) = false := by rw [bytes_n s[K] 117 117 rfl]; exact decide_eq_false (by subst hK; rw [hc]; decide)
  have q85 : ((s[K].toNat : Int) == 85) = true := by rw [bytes_n s[K] 85 85 rfl]; exact decide_eq_true (by subst hK; exact hc)
  obtain ⟨K2, hK2⟩ : ∃ K2, k + 2 = K2 := ⟨_, rfl⟩
  have e2 : (k : Int) + 2 = (K2 : Int) := by omega
  have hnum := docnum_any s hs K2 8 16 (by omega) (by decide) (by decide) (W0 w)
  rw [hK2]
  obtain ⟨A, hA⟩ : ∃ A, A = numOf 16 8 0 (s.data.toList.drop K2) := ⟨_, rfl⟩
  rw [← hA] at hnum ⊢
  have HA := Lib.hid hA
  unfold W0 at hnum
  clear hm hN hk hA hc
  go_enter Tryz.func115, Tryz.ntmps115
  go_wp2
  go_loop [10] (fun i => ∃ n : Nat, n ≤ 8 ∧ i = .int .i64 n) (fun i => 8 - (intOf i).toNat)
  case atStart => exact ⟨0, by omega, rfl⟩
  case round =>
    obtain ⟨n, hn, rfl⟩ := hrel
    by_cases hlt : n < 8
    · have q := noname_eq HN.out n hlt
      have i1 : (n : Int) < 8 := by omega
      clear hnum
      go_wp2
      go_round
      case rel => exact ⟨n + 1, by omega, by go_num⟩
      case measure => simp [intOf]; omega
    · have i1 : ¬ (n : Int) < 8 := by omega
      have HR := Lib.hid (W0_row w)
      have HB0 := Lib.hid (W0_below w)
      cases A with
      | none =>
        go_wp2_with (first
          | (go_at_call 132; refine hnum.mono ?_; rintro e w2 ⟨he, hB2⟩; have he' : e = .returned (.int .i64 (-1)) := he; clear he; subst he'; have HX := Lib.hid (row_below HR.out hB2 (by simp; omega)); have HXB := Lib.hid (HB0.out.trans (hB2.mono (by simp; omega))); clear hB2)
          | refine wpList_store_rowTo rfl 107 (.tmp 6) (.tmp 82) rfl rfl w.heap.size #[.int .i64 0, .string ⟨#[]⟩] rfl rfl 107 #[.int .i64 0, .string ⟨#[]⟩] HX.out info56 rfl (by simp [Value.oneCell']) ?_)
        go_wp2
        exact bodyPost_ret (v := .agg #[.int .i64 0, .string ⟨#[]⟩]) (results_cell_row rfl _ _ w.heap.size 107 _ (0, 0) _ rfl (setRow_at HX.out) Tryz.underlying107 rfl info56) rfl ⟨rfl, below_setRow HXB.out (Nat.le_refl _) _⟩
      | some nr =>
        obtain ⟨N, r⟩ := nr
        have hmay := fun w => may_any (N : Int) w
        cases hch : isChar (N : Int) with
        | false =>
          rw [hch] at hmay
          have HE := Lib.hid (show item ((some (N, r)).bind fun nr => if isChar nr.1 = true then some (form nr.1, 10) else none) = item none by
            show item (if isChar (N : Int) = true then _ else none) = item none
            rw [hch]; rfl)
          clear hch
          go_wp2_with (first
            | (go_at_call 132; refine hnum.mono ?_; rintro e w2 ⟨he, hB2⟩; have he' : e = .returned (.int .i64 N) := he; clear he; subst he'; have HX := Lib.hid (row_below HR.out hB2 (by simp; omega)); have HXB := Lib.hid (HB0.out.trans (hB2.mono (by simp; omega))); clear hB2 hnum)
            | (go_at_call 134; refine (hmay _).mono ?_; rintro e w3 ⟨rfl, rfl⟩)
            | refine wpList_store_rowTo rfl 107 (.tmp 6) (.tmp 82) rfl rfl w.heap.size #[.int .i64 0, .string ⟨#[]⟩] rfl rfl 107 #[.int .i64 0, .string ⟨#[]⟩] HX.out info56 rfl (by simp [Value.oneCell']) ?_)
          go_wp2
          exact bodyPost_ret (v := .agg #[.int .i64 0, .string ⟨#[]⟩]) (results_cell_row rfl _ _ w.heap.size 107 _ (0, 0) _ rfl (setRow_at HX.out) Tryz.underlying107 rfl info56) rfl ⟨by rw [HE.out]; rfl, below_setRow HXB.out (Nat.le_refl _) _⟩
        | true =>
          rw [hch] at hmay
          have HE := Lib.hid (show item ((some (N, r)).bind fun nr => if isChar nr.1 = true then some (form nr.1, 10) else none) = item (some (form N, 10)) by
            show item (if isChar (N : Int) = true then _ else none) = _
            rw [hch]; rfl)
          have hfm := fun w => rform_any (N : Int) w
          clear hch
          go_wp2_with (first
            | (go_at_call 132; refine hnum.mono ?_; rintro e w2 ⟨he, hB2⟩; have he' : e = .returned (.int .i64 N) := he; clear he; subst he'; have HX := Lib.hid (row_below HR.out hB2 (by simp; omega)); have HXB := Lib.hid (HB0.out.trans (hB2.mono (by simp; omega))); have hz : w.heap.size + 1 < w2.heap.size := (by have := hB2.size; simp at this; omega); clear hB2 hnum)
            | (go_at_call 134; refine (hmay _).mono ?_; rintro e w3 ⟨rfl, rfl⟩)
            | (go_at_call 121; refine (hfm _).mono ?_; rintro e w3 ⟨rfl, hB3⟩; have HX2 := Lib.hid (row_below HX.out hB3 (by omega)); have HXB2 := Lib.hid (HXB.out.trans (hB3.mono (by omega))); clear hB3 hz)
            | refine wpList_store_rowTo rfl 107 (.tmp 6) (.tmp 87) rfl rfl w.heap.size #[.int .i64 10, .string ⟨(form N).toArray⟩] rfl rfl 107 #[.int .i64 0, .string ⟨#[]⟩] HX2.out info56 rfl (by simp [Value.oneCell']) ?_)
          go_wp2
          exact bodyPost_ret (v := .agg #[.int .i64 10, .string ⟨(form N).toArray⟩]) (results_cell_row rfl _ _ w.heap.size 107 _ (0, 0) _ rfl (setRow_at HX2.out) Tryz.underlying107 rfl info56) rfl ⟨by rw [HE.out]; rfl, below_setRow HXB2.out (Nat.le_refl _) _⟩
set_option maxRecDepth 100000 in
set_option maxHeartbeats 4000000 in
theorem docesc_oct (s : ByteArray) (hs : s.size ≤ 140737488351232) (k : Nat) (hk : k + 1 < s.size) (m : UInt8) (hm : s[k + 1] ≠ m) (hN : NoName s[k + 1]) (h120 : s[k + 1] ≠ 120) (h117 : s[k + 1] ≠ 117) (h85 : s[k + 1] ≠ 85) (w : World) :
    Calls Tryz.prog 115 #[.string s, .int .i64 k, .int .u8 m.toNat] w fun e w' => e = .returned (item ((numOf 8 3 0 (s.data.toList.drop (k + 1))).bind fun nr => if nr.1 ≤ 255 then some (smallOf nr.1 m, 4) else none)) ∧ Below w.heap.size w w' := by
  obtain ⟨K, hK⟩ : ∃ K, k + 1 = K := ⟨_, rfl⟩
  have e1 : (k : Int) + 1 = (K : Int) := by omega
  have hKs : K < s.size := by omega
  have d1 : (K : Int) < s.size := by omega
  have d2 : (0 : Int) ≤ K := by omega
  have HN := Lib.hid (show NoName s[K] by subst hK; exact hN)
  have qm : ((s[K].toNat : Int) == (m.toNat : Int)) = false := by rw [bytes_eq]; exact decide_eq_false (by subst hK; exact hm)
  have q120 : ((s[K].toNat : Int) == 120) = false := by rw [bytes_n s[K] 120 120 rfl]; exact decide_eq_false (by subst hK; exact h120)
  have q117 : ((s[K].toNat : Int) == 117) = false := by rw [bytes_n s[K] 117 117 rfl]; exact decide_eq_false (by subst hK; exact h117)
  have q85 : ((s[K].toNat : Int) == 85) = false := by rw [bytes_n s[K] 85 85 rfl]; exact decide_eq_false (by subst hK; exact h85)
  have hnum := docnum_any s hs K 3 8 (by omega) (by decide) (by decide) (W0 w)
  rw [hK]
  obtain ⟨A, hA⟩ : ∃ A, A = numOf 8 3 0 (s.data.toList.drop K) := ⟨_, rfl⟩
  rw [← hA] at hnum ⊢
  have HA := Lib.hid hA
  unfold W0 at hnum
  clear hm hN hk hA h120 h117 h85
  go_enter Tryz.func115, Tryz.ntmps115
  go_wp2
  go_loop [10] (fun i => ∃ n : Nat, n ≤ 8 ∧ i = .int .i64 n) (fun i => 8 - (intOf i).toNat)
  case atStart => exact ⟨0, by omega, rfl⟩
  case round =>
    obtain ⟨n, hn, rfl⟩ := hrel
    by_cases hlt : n < 8
    · have q := noname_eq HN.out n hlt
      have i1 : (n : Int) < 8 := by omega
      clear hnum
      go_wp2
      go_round
      case rel => exact ⟨n + 1, by omega, by go_num⟩
      case measure => simp [intOf]; omega
    · have i1 : ¬ (n : Int) < 8 := by omega
      have HR := Lib.hid (W0_row w)
      have HB0 := Lib.hid (W0_below w)
      cases A with
      | none =>
        go_wp2_with (first
          | (go_at_call 132; refine hnum.mono ?_; rintro e w2 ⟨he, hB2⟩; have he' : e = .returned (.int .i64 (-1)) := he; clear he; subst he'; have HX := Lib.hid (row_below HR.out hB2 (by simp; omega)); have HXB := Lib.hid (HB0.out.trans (hB2.mono (by simp; omega))); clear hB2)
          | refine wpList_store_rowTo rfl 107 (.tmp 6) (.tmp 98) rfl rfl w.heap.size #[.int .i64 0, .string ⟨#[]⟩] rfl rfl 107 #[.int .i64 0, .string ⟨#[]⟩] HX.out info56 rfl (by simp [Value.oneCell']) ?_)
        go_wp2
        exact bodyPost_ret (v := .agg #[.int .i64 0, .string ⟨#[]⟩]) (results_cell_row rfl _ _ w.heap.size 107 _ (0, 0) _ rfl (setRow_at HX.out) Tryz.underlying107 rfl info56) rfl ⟨rfl, below_setRow HXB.out (Nat.le_refl _) _⟩
      | some nr =>
        obtain ⟨N, r⟩ := nr
        by_cases hle : N ≤ 255
        · have HE := Lib.hid (show item ((some (N, r)).bind fun nr => if nr.1 ≤ 255 then some (smallOf nr.1 m, 4) else none) = item (some (smallOf N m, 4)) by
            show item (if N ≤ 255 then _ else none) = _
            rw [if_pos hle])
          have hsm := fun w => docsmall_any N hle m w
          have g1 : ¬ (255 : Int) < (N : Int) := by omega
          clear hle
          go_wp2_with (first
            | (go_at_call 132; refine hnum.mono ?_; rintro e w2 ⟨he, hB2⟩; have he' : e = .returned (.int .i64 N) := he; clear he; subst he'; have HX := Lib.hid (row_below HR.out hB2 (by simp; omega)); have HXB := Lib.hid (HB0.out.trans (hB2.mono (by simp; omega))); have hz : w.heap.size + 1 < w2.heap.size := (by have := hB2.size; simp at this; omega); clear hB2 hnum)
            | (go_at_call 133; refine (hsm _).mono ?_; rintro e w3 ⟨rfl, hB3⟩; have HX2 := Lib.hid (row_below HX.out hB3 (by omega)); have HXB2 := Lib.hid (HXB.out.trans (hB3.mono (by omega))); clear hB3 hz)
            | refine wpList_store_rowTo rfl 107 (.tmp 6) (.tmp 102) rfl rfl w.heap.size #[.int .i64 4, .string ⟨(smallOf N m).toArray⟩] rfl rfl 107 #[.int .i64 0, .string ⟨#[]⟩] HX2.out info56 rfl (by simp [Value.oneCell']) ?_)
          go_wp2
          exact bodyPost_ret (v := .agg #[.int .i64 4, .string ⟨(smallOf N m).toArray⟩]) (results_cell_row rfl _ _ w.heap.size 107 _ (0, 0) _ rfl (setRow_at HX2.out) Tryz.underlying107 rfl info56) rfl ⟨by rw [HE.out]; rfl, below_setRow HXB2.out (Nat.le_refl _) _⟩
        · have HE := Lib.hid (show item ((some (N, r)).bind fun nr => if nr.1 ≤ 255 then some (smallOf nr.1 m, 4) else none) = item none by
            show item (if N ≤ 255 then _ else none) = _
            rw [if_neg hle])
          have g1 : (255 : Int) < (N : Int) := by omega
          clear hle
          go_wp2_with (first
            | (go_at_call 132; refine hnum.mono ?_; rintro e w2 ⟨he, hB2⟩; have he' : e = .returned (.int .i64 N) := he; clear he; subst he'; have HX := Lib.hid (row_below HR.out hB2 (by simp; omega)); have HXB := Lib.hid (HB0.out.trans (hB2.mono (by simp; omega))); clear hB2 hnum)
            | refine wpList_store_rowTo rfl 107 (.tmp 6) (.tmp 98) rfl rfl w.heap.size #[.int .i64 0, .string ⟨#[]⟩] rfl rfl 107 #[.int .i64 0, .string ⟨#[]⟩] HX.out info56 rfl (by simp [Value.oneCell']) ?_)
          go_wp2
          exact bodyPost_ret (v := .agg #[.int .i64 0, .string ⟨#[]⟩]) (results_cell_row rfl _ _ w.heap.size 107 _ (0, 0) _ rfl (setRow_at HX.out) Tryz.underlying107 rfl info56) rfl ⟨by rw [HE.out]; rfl, below_setRow HXB.out (Nat.le_refl _) _⟩
theorem W0_says (w : World) (j : Nat) (x : UInt8) (hx : (#[7, 8, 12, 10, 13, 9, 11, 92] : Array UInt8)[j]? = some x) : (W0 w).cell? ⟨w.heap.size + 1, j, none⟩ = some (.int .u8 (x.toNat : Int)) := by
  unfold World.cell?
  have hr : (W0 w).heap[w.heap.size + 1]? = some (.cells #[.int .u8 7, .int .u8 8, .int .u8 12, .int .u8 10, .int .u8 13, .int .u8 9, .int .u8 11, .int .u8 92] 5 (0, 0)) := by
    show ((w.heap.push _).push _)[w.heap.size + 1]? = _
    rw [Array.getElem?_push, if_pos (by simp)]
  simp only [hr]
  match j, hx with
  | 0, hx | 1, hx | 2, hx | 3, hx | 4, hx | 5, hx | 6, hx | 7, hx => simp at hx; subst hx; rfl
set_option maxRecDepth 100000 in
set_option maxHeartbeats 4000000 in
theorem docesc_named (s : ByteArray) (hs : s.size ≤ 140737488351232) (k : Nat) (hk : k + 1 < s.size) (m : UInt8) (j : Nat) (hj : j < 8) (hc : (⟨#[97, 98, 102, 110, 114, 116, 118, 92]⟩ : ByteArray)[j]'hj = s[k + 1]) (x : UInt8) (hx : (#[7, 8, 12, 10, 13, 9, 11, 92] : Array UInt8)[j]? = some x) (w : World) :
    Calls Tryz.prog 115 #[.string s, .int .i64 k, .int .u8 m.toNat] w fun e w' => e = .returned (item (some ([x], 2))) ∧ Below w.heap.size w w' := by
  obtain ⟨K, hK⟩ : ∃ K, k + 1 = K := ⟨_, rfl⟩
  have e1 : (k : Int) + 1 = (K : Int) := by omega
  have hKs : K < s.size := by omega
  have d1 : (K : Int) < s.size := by omega
  have d2 : (0 : Int) ≤ K := by omega
  have HC := Lib.hid (show (⟨#[97, 98, 102, 110, 114, 116, 118, 92]⟩ : ByteArray)[j]'hj = s[K] by subst hK; exact hc)
  have HX1 := Lib.hid hx
  have hcv := conv_W0 w x
  have hsy := W0_says w j x hx
  unfold W0 at hcv hsy
  clear hk hc hx
  go_enter Tryz.func115, Tryz.ntmps115
  go_wp2
  go_loop [10] (fun i => ∃ n : Nat, n ≤ j ∧ i = .int .i64 n) (fun i => 8 - (intOf i).toNat)
  case atStart => exact ⟨0, by omega, rfl⟩
  case round =>
    obtain ⟨n, hn, rfl⟩ := hrel
    have i1 : (n : Int) < 8 := by omega
    by_cases hlt : n < j
    · have q : ((((⟨#[97, 98, 102, 110, 114, 116, 118, 92]⟩ : ByteArray)[n]'(show n < 8 from by omega)).toNat : Int) == (s[K].toNat : Int)) = false := by
        rw [← HC.out, bytes_eq]
        have h9 : ∀ a b : Fin 8, a.1 < b.1 → (⟨#[97, 98, 102, 110, 114, 116, 118, 92]⟩ : ByteArray)[a.1]'a.2 ≠ (⟨#[97, 98, 102, 110, 114, 116, 118, 92]⟩ : ByteArray)[b.1]'b.2 := by decide
        exact decide_eq_false (h9 ⟨n, by omega⟩ ⟨j, hj⟩ hlt)
      clear hcv hsy
      go_wp2
      go_round
      case rel => exact ⟨n + 1, by omega, by go_num⟩
      case measure => simp [intOf]; omega
    · obtain rfl : n = j := by omega
      have q : ((((⟨#[97, 98, 102, 110, 114, 116, 118, 92]⟩ : ByteArray)[n]'hj).toNat : Int) == (s[K].toNat : Int)) = true := by rw [HC.out]; simp
      have HX := Lib.hid (row_alloc (o' := .cells #[.int .u8 (x.toNat : Int)] 5) (W0_row w))
      have HXB := Lib.hid ((W0_below w).alloc (by rw [W0_size]; omega) (.cells #[.int .u8 (x.toNat : Int)] 5))
      go_wp2_with (refine wpList_store_rowTo rfl 107 (.tmp 6) (.tmp 41) rfl rfl w.heap.size #[.int .i64 2, .string ⟨#[x]⟩] rfl rfl 107 #[.int .i64 0, .string ⟨#[]⟩] HX.out info56 rfl (by simp [Value.oneCell']) ?_)
      go_wp2
      exact bodyPost_ret (v := .agg #[.int .i64 2, .string ⟨#[x]⟩]) (results_cell_row rfl _ _ w.heap.size 107 _ (0, 0) _ rfl (setRow_at HX.out) Tryz.underlying107 rfl info56) rfl ⟨rfl, below_setRow HXB.out (Nat.le_refl _) _⟩

theorem isChar_small {n : Nat} (h : n ≤ 255) : isChar (n : Int) = true := by
  unfold isChar; simp; omega
theorem say_small {N : Nat} (h : N ≤ 255) (m : UInt8) : sayOf N m true = some (smallOf N m) := by
  unfold sayOf smallOf
  by_cases hm : m = 34
  · rw [if_pos ⟨rfl, hm⟩, if_pos hm]
  · rw [if_neg (fun h => hm h.2), if_neg hm, if_neg (by omega), if_pos (isChar_small h)]
theorem say_big (N : Nat) (m : UInt8) : sayOf N m false = if isChar (N : Int) = true then some (form N) else none := by
  unfold sayOf
  rw [if_neg (by simp)]
  by_cases h : 1114111 < N
  · have : isChar (N : Int) = false := by unfold isChar; simp; omega
    rw [if_pos h, this]; rfl
  · rw [if_neg h]
theorem esc_x (m : UInt8) (t : List UInt8) : escOf m 1 (120 :: t) = (numOf 16 2 0 t).map fun nr => (smallOf nr.1 m, 4) := by
  rw [escOf_cons, if_pos (by decide)]
  show (numOf 16 2 0 t).bind (fun nr => (sayOf nr.1 m true).map fun L => (L, 4)) = _
  cases h : numOf 16 2 0 t with
  | none => rfl
  | some nr =>
    have h1 := numOf_lt 16 (by decide) _ _ _ _ _ h
    have : (16 : Nat) ^ 2 = 256 := by decide
    show (sayOf nr.1 m true).map _ = some _
    rw [say_small (by omega)]; rfl
theorem esc_u (m : UInt8) (c : UInt8) (hc : c = 117 ∨ c = 85) (t : List UInt8) : escOf m 1 (c :: t) = (numOf 16 (digitsOf c) 0 t).bind fun nr => if isChar nr.1 = true then some (form nr.1, 2 + digitsOf c) else none := by
  rw [escOf_cons, if_pos (by rcases hc with rfl | rfl <;> decide)]
  have : decide (c = 120) = false := by rcases hc with rfl | rfl <;> rfl
  rw [this]
  congr 1
  funext nr
  rw [say_big]
  split <;> rfl
theorem numOf_bad {base d : Nat} {c : UInt8} {t : List UInt8} (h : ¬ (0 ≤ hexOf c.toNat ∧ hexOf c.toNat < base)) : numOf base (d + 1) 0 (c :: t) = none := numOf_stop h
theorem hex_oct (c : UInt8) : (0 ≤ hexOf c.toNat ∧ hexOf c.toNat < (8 : Nat)) ↔ (48 ≤ c.toNat ∧ c.toNat ≤ 55) := by
  unfold hexOf
  split
  · omega
  · split
    · omega
    · split <;> omega
theorem esc_rest (m : UInt8) (c : UInt8) (t : List UInt8) (h1 : ¬ (c = 85 ∨ c = 117 ∨ c = 120)) (hm : c ≠ m) (hn : named c = none) : escOf m 1 (c :: t) = (numOf 8 3 0 (c :: t)).bind fun nr => if nr.1 ≤ 255 then some (smallOf nr.1 m, 4) else none := by
  rw [escOf_cons, if_neg h1]
  by_cases ho : 48 ≤ c.toNat ∧ c.toNat ≤ 55
  · rw [if_pos ho]
    congr 1
    funext nr
    by_cases h : nr.1 ≤ 255
    · rw [if_pos h, if_pos h, say_small h]; rfl
    · rw [if_neg h, if_neg h]
  · rw [if_neg ho, numOf_bad (fun h => ho ((hex_oct c).1 h)), if_neg hm, hn]
    split <;> rfl
theorem named_ix (c : UInt8) : (∃ (j : Nat) (hj : j < 8) (x : UInt8), (⟨#[97, 98, 102, 110, 114, 116, 118, 92]⟩ : ByteArray)[j]'hj = c ∧ (#[7, 8, 12, 10, 13, 9, 11, 92] : Array UInt8)[j]? = some x ∧ named c = some x) ∨ (NoName c ∧ named c = none) := by
  by_cases h0 : c = 97
  · exact .inl ⟨0, by decide, 7, h0.symm, rfl, by rw [h0]; rfl⟩
  by_cases h1 : c = 98
  · exact .inl ⟨1, by decide, 8, h1.symm, rfl, by rw [h1]; rfl⟩
  by_cases h2 : c = 102
  · exact .inl ⟨2, by decide, 12, h2.symm, rfl, by rw [h2]; rfl⟩
  by_cases h3 : c = 110
  · exact .inl ⟨3, by decide, 10, h3.symm, rfl, by rw [h3]; rfl⟩
  by_cases h4 : c = 114
  · exact .inl ⟨4, by decide, 13, h4.symm, rfl, by rw [h4]; rfl⟩
  by_cases h5 : c = 116
  · exact .inl ⟨5, by decide, 9, h5.symm, rfl, by rw [h5]; rfl⟩
  by_cases h6 : c = 118
  · exact .inl ⟨6, by decide, 11, h6.symm, rfl, by rw [h6]; rfl⟩
  by_cases h7 : c = 92
  · exact .inl ⟨7, by decide, 92, h7.symm, rfl, by rw [h7]; rfl⟩
  right
  refine ⟨?_, ?_⟩
  · intro n hn
    match n, hn with
    | 0, _ => exact fun e => h0 e.symm
    | 1, _ => exact fun e => h1 e.symm
    | 2, _ => exact fun e => h2 e.symm
    | 3, _ => exact fun e => h3 e.symm
    | 4, _ => exact fun e => h4 e.symm
    | 5, _ => exact fun e => h5 e.symm
    | 6, _ => exact fun e => h6 e.symm
    | 7, _ => exact fun e => h7 e.symm
    | n + 8, h => exact absurd h (by show ¬ n + 8 < 8; omega)
  · unfold named
    rw [if_neg h0, if_neg h1, if_neg h2, if_neg h3, if_neg h4, if_neg h5, if_neg h6, if_neg h7]
theorem docesc_any (s : ByteArray) (hs : s.size ≤ 140737488351232) (k : Nat) (hk : k < s.size) (m : UInt8) (hm : m = 39 ∨ m = 34) (w : World) :
    Calls Tryz.prog 115 #[.string s, .int .i64 k, .int .u8 m.toNat] w fun e w' => e = .returned (item (escOf m 1 (s.data.toList.drop (k + 1)))) ∧ Below w.heap.size w w' := by
  by_cases hin : k + 1 < s.size
  · rw [drop_at s (k + 1) hin]
    rcases named_ix s[k + 1] with ⟨j, hj, x, h1, h2, h3⟩ | ⟨hN, hn⟩
    · have he : escOf m 1 (s[k + 1] :: s.data.toList.drop (k + 1 + 1)) = some ([x], 2) := by
        have hd : ∀ j : Fin 8, ¬ ((⟨#[97, 98, 102, 110, 114, 116, 118, 92]⟩ : ByteArray)[j.1]'j.2 = 85 ∨ (⟨#[97, 98, 102, 110, 114, 116, 118, 92]⟩ : ByteArray)[j.1]'j.2 = 117 ∨ (⟨#[97, 98, 102, 110, 114, 116, 118, 92]⟩ : ByteArray)[j.1]'j.2 = 120) ∧ ¬ (48 ≤ ((⟨#[97, 98, 102, 110, 114, 116, 118, 92]⟩ : ByteArray)[j.1]'j.2).toNat ∧ ((⟨#[97, 98, 102, 110, 114, 116, 118, 92]⟩ : ByteArray)[j.1]'j.2).toNat ≤ 55) ∧ ¬ ((⟨#[97, 98, 102, 110, 114, 116, 118, 92]⟩ : ByteArray)[j.1]'j.2 = 39 ∨ (⟨#[97, 98, 102, 110, 114, 116, 118, 92]⟩ : ByteArray)[j.1]'j.2 = 34) := by decide
        have hd1 := hd ⟨j, hj⟩
        simp only [h1] at hd1
        rw [escOf_cons, if_neg hd1.1, if_neg hd1.2.1, if_neg hd1.2.2, h3]; rfl
      rw [he]
      exact docesc_named s hs k hin m j hj h1 x h2 w
    · by_cases hcm : s[k + 1] = m
      · have he : escOf m 1 (s[k + 1] :: s.data.toList.drop (k + 1 + 1)) = some ([m], 2) := by
          rw [hcm, escOf_cons]
          rcases hm with rfl | rfl <;> rfl
        rw [he]
        exact docesc_mark s hs k hin m hcm (hcm ▸ hN) w
      · by_cases h120 : s[k + 1] = 120
        · have := docesc_x s hs k hin m hcm hN h120 w
          rw [h120, esc_x]; exact this
        · by_cases h117 : s[k + 1] = 117
          · have := docesc_u4 s hs k hin m hcm hN h117 w
            rw [h117, esc_u m 117 (.inl rfl)]; exact this
          · by_cases h85 : s[k + 1] = 85
            · have := docesc_u8 s hs k hin m hcm hN h85 w
              rw [h85, esc_u m 85 (.inr rfl)]; exact this
            · rw [esc_rest m _ _ (by rintro (h | h | h); exact h85 h; exact h117 h; exact h120 h) hcm hn, ← drop_at s (k + 1) hin]
              exact docesc_oct s hs k hin m hcm hN h120 h117 h85 w
  · rw [List.drop_of_length_le (by simp; omega)]
    exact docesc_end s hs k hk m w (by omega)
end Go.Proofs.YtoffjpgobhcipaaGreatDoor

/-
  Layer 6: the document's item.
-/
namespace Go.Proofs.YtoffjpgobhcipaaGreatDoor
open Go.ChangeShapes Go.WideShapes Go.ChangeAt Go.RowKit

/-- an item at a place: what it says, how many bytes it has -/
def docItem (m c : UInt8) (t : List UInt8) : Option (List UInt8 × Nat) :=
  if c = 92 then escOf m 1 t else if c = 10 then none else if m = 34 then some ([c], 1) else if wide (c :: t) = 0 then none else some ((c :: t).take (wide (c :: t)), wide (c :: t))
theorem fresh_row (w : World) (o : Obj) : (w.alloc o).heap[w.heap.size]? = some o := by
  show (w.heap.push _)[w.heap.size]? = _; simp
set_option maxRecDepth 100000 in
set_option maxHeartbeats 4000000 in
theorem docitem_any (s : ByteArray) (hs : s.size ≤ 140737488351232) (k : Nat) (hk : k < s.size) (m : UInt8) (hm : m = 39 ∨ m = 34) (w : World) :
    Calls Tryz.prog 86 #[.string s, .int .i64 k, .int .u8 m.toNat] w fun e w' => e = .returned (item (docItem m s[k] (s.data.toList.drop (k + 1)))) ∧ Below w.heap.size w w' := by
  have d1 : (k : Int) < s.size := by omega
  have d2 : (0 : Int) ≤ k := by omega
  have b92 := bytes_n s[k] 92 92 rfl
  have b10 := bytes_n s[k] 10 10 rfl
  have HB0 := Lib.hid ((Below.refl w.heap.size w).alloc (Nat.le_refl _) (.cells #[.int .i64 0, .string ⟨#[]⟩] 107))
  have HR := Lib.hid (fresh_row w (.cells #[.int .i64 0, .string ⟨#[]⟩] 107))
  by_cases h92 : s[k] = 92
  · have he : docItem m s[k] (s.data.toList.drop (k + 1)) = escOf m 1 (s.data.toList.drop (k + 1)) := by unfold docItem; rw [if_pos h92]
    rw [he]
    have hes := fun w => docesc_any s hs k hk m hm w
    obtain ⟨A, hA⟩ : ∃ A, A = escOf m 1 (s.data.toList.drop (k + 1)) := ⟨_, rfl⟩
    rw [← hA] at hes ⊢
    rw [decide_eq_true h92] at b92
    clear he hA b10 h92
    cases A with
    | none =>
      go_enter Tryz.func86, Tryz.ntmps86
      go_wp2_with (first
        | (go_at_call 115; refine (hes _).mono ?_; rintro e w2 ⟨he, hB2⟩; have he' : e = .returned (.agg #[.int .i64 0, .string ⟨#[]⟩]) := he; clear he; subst he'; have HX := Lib.hid (row_below HR.out hB2 (by simp)); have HXB := Lib.hid (HB0.out.trans (hB2.mono (by simp))); clear hB2)
        | refine wpList_store_rowTo rfl 107 (.tmp 6) (.tmp 15) rfl rfl w.heap.size #[.int .i64 0, .string ⟨#[]⟩] rfl rfl 107 #[.int .i64 0, .string ⟨#[]⟩] HX.out info56 rfl (by simp [Value.oneCell']) ?_)
      go_wp2
      exact bodyPost_ret (v := .agg #[.int .i64 0, .string ⟨#[]⟩]) (results_cell_row rfl _ _ w.heap.size 107 _ (0, 0) _ rfl (setRow_at HX.out) Tryz.underlying107 rfl info56) rfl ⟨rfl, below_setRow HXB.out (Nat.le_refl _) _⟩
    | some x =>
      obtain ⟨L, n⟩ := x
      go_enter Tryz.func86, Tryz.ntmps86
      go_wp2_with (first
        | (go_at_call 115; refine (hes _).mono ?_; rintro e w2 ⟨he, hB2⟩; have he' : e = .returned (.agg #[.int .i64 n, .string ⟨L.toArray⟩]) := he; clear he; subst he'; have HX := Lib.hid (row_below HR.out hB2 (by simp)); have HXB := Lib.hid (HB0.out.trans (hB2.mono (by simp))); clear hB2)
        | refine wpList_store_rowTo rfl 107 (.tmp 6) (.tmp 15) rfl rfl w.heap.size #[.int .i64 n, .string ⟨L.toArray⟩] rfl rfl 107 #[.int .i64 0, .string ⟨#[]⟩] HX.out info56 rfl (by simp [Value.oneCell']) ?_)
      go_wp2
      exact bodyPost_ret (v := .agg #[.int .i64 n, .string ⟨L.toArray⟩]) (results_cell_row rfl _ _ w.heap.size 107 _ (0, 0) _ rfl (setRow_at HX.out) Tryz.underlying107 rfl info56) rfl ⟨rfl, below_setRow HXB.out (Nat.le_refl _) _⟩
  rw [decide_eq_false h92] at b92
  by_cases h10 : s[k] = 10
  · have he : docItem m s[k] (s.data.toList.drop (k + 1)) = none := by unfold docItem; rw [if_neg h92, if_pos h10]
    rw [he]
    rw [decide_eq_true h10] at b10
    clear he h10 h92
    go_enter Tryz.func86, Tryz.ntmps86
    go_wp2_with (refine wpList_store_rowTo rfl 107 (.tmp 6) (.tmp 20) rfl rfl w.heap.size #[.int .i64 0, .string ⟨#[]⟩] rfl rfl 107 #[.int .i64 0, .string ⟨#[]⟩] HR.out info56 rfl (by simp [Value.oneCell']) ?_)
    go_wp2
    exact bodyPost_ret (v := .agg #[.int .i64 0, .string ⟨#[]⟩]) (results_cell_row rfl _ _ w.heap.size 107 _ (0, 0) _ rfl (setRow_at HR.out) Tryz.underlying107 rfl info56) rfl ⟨rfl, below_setRow HB0.out (Nat.le_refl _) _⟩
  rw [decide_eq_false h10] at b10
  rcases hm with rfl | rfl
  · obtain ⟨n, hn⟩ : ∃ n, n = wide (s.data.toList.drop k) := ⟨_, rfl⟩
    have hwl := wide_le (s.data.toList.drop k)
    rw [← hn, List.length_drop, show s.data.toList.length = s.size by simp] at hwl
    have he : item (docItem 39 s[k] (s.data.toList.drop (k + 1))) = .agg #[.int .i64 n, .string (s.extract k (k + n))] := by
      unfold docItem
      rw [if_neg h92, if_neg h10, if_neg (by decide), ← drop_at s k hk, ← hn]
      have hx : s.extract k (k + n) = ⟨((s.data.toList.drop k).take n).toArray⟩ := by
        apply ba_of_list
        rw [← ByteArray.toList_eq, extract_list, List.drop_take]; congr 1; omega
      rw [hx]
      by_cases h : n = 0
      · rw [if_pos h, h]; rfl
      · rw [if_neg h]; rfl
    rw [he]
    have hrd := fun w => rread_in s k w (by unfold maxLen; omega) hk
    rw [← hn] at hrd
    obtain ⟨c, hc⟩ : ∃ c, c = chr (s.data.toList.drop k) := ⟨_, rfl⟩
    rw [← hc] at hrd
    have hsl := fun w => slice_run s k n _ rfl (by omega) w
    obtain ⟨X, hX⟩ : ∃ X, X = s.extract k (k + n) := ⟨_, rfl⟩
    rw [← hX] at hsl ⊢
    clear hn he h92 h10 hc hX
    go_enter Tryz.func86, Tryz.ntmps86
    go_wp2_with (first
      | (go_at_call 92; refine (hrd _).mono ?_; rintro e w2 ⟨rfl, hB2⟩; have HX := Lib.hid (row_below HR.out hB2 (by simp)); have HXB := Lib.hid (HB0.out.trans (hB2.mono (by simp))); clear hB2)
      | refine wpList_store_rowTo rfl 107 (.tmp 6) (.tmp 36) rfl rfl w.heap.size #[.int .i64 n, .string X] rfl rfl 107 #[.int .i64 0, .string ⟨#[]⟩] HX.out info56 rfl (by simp [Value.oneCell']) ?_)
    go_wp2
    exact bodyPost_ret (v := .agg #[.int .i64 n, .string X]) (results_cell_row rfl _ _ w.heap.size 107 _ (0, 0) _ rfl (setRow_at HX.out) Tryz.underlying107 rfl info56) rfl ⟨rfl, below_setRow HXB.out (Nat.le_refl _) _⟩
  · have he : docItem 34 s[k] (s.data.toList.drop (k + 1)) = some ([s[k]], 1) := by unfold docItem; rw [if_neg h92, if_neg h10, if_pos rfl]
    rw [he]
    have hsl : ∀ w, (Instr.slice 9 (.string s) (some (.int .i64 (k : Int))) (some (.int .i64 ((k : Int) + 1))) none).run Tryz.prog w = .ok (.string ⟨#[s[k]]⟩) w := by
      intro w
      have h := slice_run s k 1 ((k : Int) + 1) rfl (by omega) w
      have hx : s.extract k (k + 1) = ⟨#[s[k]]⟩ := by
        refine ba_of_list (l := [s[k]]) ?_
        rw [← ByteArray.toList_eq, extract_list, List.drop_take, drop_at s k hk]; simp
      rw [hx] at h
      exact h
    clear he h92 h10
    go_enter Tryz.func86, Tryz.ntmps86
    go_wp2_with (refine wpList_store_rowTo rfl 107 (.tmp 6) (.tmp 36) rfl rfl w.heap.size #[.int .i64 1, .string ⟨#[s[k]]⟩] rfl rfl 107 #[.int .i64 0, .string ⟨#[]⟩] HR.out info56 rfl (by simp [Value.oneCell']) ?_)
    go_wp2
    exact bodyPost_ret (v := .agg #[.int .i64 1, .string ⟨#[s[k]]⟩]) (results_cell_row rfl _ _ w.heap.size 107 _ (0, 0) _ rfl (setRow_at HR.out) Tryz.underlying107 rfl info56) rfl ⟨rfl, below_setRow HB0.out (Nat.le_refl _) _⟩
end Go.Proofs.YtoffjpgobhcipaaGreatDoor

/-
  Layer 6: the document's Begun: raw strings.
-/
namespace Go.Proofs.YtoffjpgobhcipaaGreatDoor
open Go.ChangeShapes Go.WideShapes Go.ChangeAt Go.RowKit

/-- what Begun answers -/
def begAns : Option (Nat × List UInt8 × Nat) → Value
  | some (K, L, k') => .tuple #[.int .u8 K, .int .i64 k', .string ⟨L.toArray⟩, .int .i64 0]
  | none => .tuple #[.int .u8 0, .int .i64 0, .string ⟨#[]⟩, .int .i64 4]
theorem conv_drewN {w : World} {base : Nat} {v : Value} {l : List UInt8} (h : w.ownsRow base 5 1 v l.length (bvals l)) (m : Nat) :
    (convert 55 9 v).run Tryz.prog (w.drewN m) = .ok (.string ⟨l.toArray⟩) (w.drewN m) := conv_own (w := w.drewN m) (base := base) h
theorem results_tmp4 {fn : Func} {t u v x : Tmp} (h : fn.results = #[.tmp t, .tmp u, .tmp v, .tmp x]) (tmps : Array Value) (P : Program) (w : World) :
    (results fn tmps).run P w = .ok (.tuple #[tmps.getD t undef, tmps.getD u undef, tmps.getD v undef, tmps.getD x undef]) w := by
  simp [results, h]
set_option maxRecDepth 100000 in
set_option maxHeartbeats 4000000 in
theorem begun_raw (s : ByteArray) (hs : s.size ≤ 140737488351232) (k : Nat) (hk : k < s.size) (hc : s[k] = 96) (w : World) :
    Calls Tryz.prog 67 #[.string s, .int .i64 k] w fun e w' => e = .returned (begAns ((rawOf (k + 1) [] (s.data.toList.drop (k + 1))).map fun x => (7, x))) ∧ Below w.heap.size w w' := by
  obtain ⟨i0, hi, hz0, hz1, hz2⟩ := info_parts info5
  obtain ⟨A, hA⟩ : ∃ A, A = rawOf (k + 1) [] (s.data.toList.drop (k + 1)) := ⟨_, rfl⟩
  rw [← hA]
  have HA := Lib.hid hA
  have hcn : (s[k].toNat : Int) = 96 := by rw [hc]; rfl
  have d1 : (k : Int) < s.size := by omega
  have d2 : (0 : Int) ≤ k := by omega
  have d3 : decide ((k : Int) < 0) = false := decide_eq_false (by omega)
  have d4 : decide (s.size ≤ k) = false := decide_eq_false (by omega)
  clear hA hc
  go_enter Tryz.func67, Tryz.ntmps67
  go_wp2
  go_loopw [9, 10] (fun v iv wr => ∃ (i : Nat) (T : List UInt8), i ≤ s.size ∧ T.length ≤ i ∧ iv = .int .i64 i ∧ Own wr w.heap.size v T ∧ Below w.heap.size w wr ∧ Hid (A = rawOf i T (s.data.toList.drop i))) (fun _ iv _ => s.size - (intOf iv).toNat)
  case atStart => exact ⟨k + 1, [], by omega, by simp, by go_num, World.ownsRow_nil _ _ _ _, Below.refl _ _, HA⟩
  case round =>
    clear HA
    obtain ⟨i, T, hi', hTi, rfl, hO, hB, hAi⟩ := hrel
    have hbs := hB.size
    by_cases hlt : i < s.size
    · have hst := hAi.out
      rw [drop_at s i hlt, rawOf_step] at hst
      have i1 : (i : Int) < s.size := by omega
      have i2 : (0 : Int) ≤ i := by omega
      have b96 := bytes_n s[i] 96 96 rfl
      have b13 := bytes_n s[i] 13 13 rfl
      by_cases h96 : s[i] = 96
      · have hA2 : A = some (T, i + 1) := by rw [hst, if_pos h96]
        rw [decide_eq_true h96] at b96
        subst hA2
        have hcv := fun m => conv_drewN (w := wr) hO.own m
        have hz : decide (i = k + 1) = decide (i = k + 1) := rfl
        have g96 : ((s[i].toNat : Int) != 96) = false := by rw [bne, b96]; rfl
        clear hst b13 h96 hAi hz
        go_wp2
        go_quiet (fail)
        go_wp2
        refine bodyPost_ret (results_tmp4 rfl _ _ _) rfl ⟨rfl, below_drewN hB _⟩
      rw [decide_eq_false h96, if_neg h96] at *
      by_cases h13 : s[i] = 13
      · rw [if_pos h13] at hst
        have hA2 := Lib.hid hst
        rw [decide_eq_true h13] at b13
        have g13 : ((s[i].toNat : Int) != 13) = false := by rw [bne, b13]; rfl
        have g96 : ((s[i].toNat : Int) != 96) = true := by rw [bne, b96]; rfl
        clear hst h13 hAi h96 b13
        go_wp2
        go_roundw
        case rel => exact ⟨i + 1, T, by omega, by omega, by go_num, hO, hB, hA2⟩
        case measure => simp [intOf]; omega
      · rw [if_neg h13] at hst
        have hA2 := Lib.hid hst
        rw [decide_eq_false h13] at b13
        have g13 : ((s[i].toNat : Int) != 13) = true := by rw [bne, b13]; rfl
        have g96 : ((s[i].toNat : Int) != 96) = true := by rw [bne, b96]; rfl
        clear hst h13 hAi h96 b13
        go_wp2_with (at_builtin; refine wpList_append_own _ rfl _ _ 55 rfl w.heap.size 5 i0 (.int .u8 0) 1 1 Tryz.underlying55 hi hz0 hz1 hz2 rfl (by decide) _ _ _ rfl (hO.alloc _) ⟨wr.heap.size, 0, none⟩ 1 1 (bvals [s[i]]) rfl rfl (row_new _ _ _) ?_ ?_ ?_ ?_ ?_)
        · intro u hu; simp [bvals] at hu; subst hu; rfl
        · unfold maxLen; omega
        · omega
        · simp; omega
        intro v' w1 hown' hgrow _
        obtain ⟨hO1, hB1⟩ := hO.grew hB hbs (L := [s[i]]) hown' hgrow
        obtain ⟨ao, nn, cap, rfl⟩ := own_slice hown'
        clear hown' hgrow
        go_wp2_with fail
        go_roundw
        case rel => exact ⟨i + 1, T ++ [s[i]], by omega, by simp; omega, by go_num, hO1, hB1, hA2⟩
        case measure => simp [intOf]; omega
    · have hAz : A = none := by rw [hAi.out, List.drop_of_length_le (by simp; omega)]; rfl
      subst hAz
      have i1 : ¬ (i : Int) < s.size := by omega
      have i3 : decide (s.size ≤ i) = true := decide_eq_true (by omega)
      clear hAi
      go_wp2
      refine bodyPost_ret (results_tmp4 rfl _ _ _) rfl ⟨rfl, hB⟩
end Go.Proofs.YtoffjpgobhcipaaGreatDoor
