/-
  Layer 6: the document's Begun: runes.
-/
import Derived.Test.YtpbkdgbmnffooaaX
import Derived.Test.YtpbkdgbmnffooaaXb
namespace Go.Proofs.Ytpbkdgbmnffooaa
open Go.ChangeShapes Go.WideShapes Go.ChangeAt Go.RowKit

set_option maxRecDepth 100000 in
set_option maxHeartbeats 4000000 in
theorem begun_rune (s : ByteArray) (hs : s.size ≤ 140737488351232) (k : Nat) (hk : k < s.size) (hc : s[k] = 39) (w : World) :
    Calls Try.prog 21 #[.string s, .int .i64 k] w fun e w' => e = .returned (begAns ((runeOf s.data.toList (k + 1) []).map fun x => (6, x))) ∧ Below w.heap.size w w' := by
  obtain ⟨i0, hi, hz0, hz1, hz2⟩ := info_parts info5
  obtain ⟨i, hiK⟩ : ∃ i, i = k + 1 := ⟨_, rfl⟩
  have e1 : (k : Int) + 1 = (i : Int) := by omega
  have hlen : s.data.toList.length = s.size := by simp
  rw [← hiK]
  obtain ⟨A, hA⟩ : ∃ A, A = runeOf s.data.toList i [] := ⟨_, rfl⟩
  rw [← hA]
  have HA := Lib.hid hA
  have hcn : (s[k].toNat : Int) = 39 := by rw [hc]; rfl
  have d1 : (k : Int) < s.size := by omega
  have d2 : (0 : Int) ≤ k := by omega
  have d3 : decide ((k : Int) < 0) = false := decide_eq_false (by omega)
  have d4 : decide (s.size ≤ k) = false := decide_eq_false (by omega)
  have HI0 := Lib.hid (show i ≤ s.size by omega)
  clear hA hc hiK
  go_enter Try.func21, Try.ntmps21
  go_wp2
  go_loopw [9, 10] (fun v iv wr => iv = .int .i64 i ∧ Own wr w.heap.size v [] ∧ Below w.heap.size w wr) (fun _ iv _ => s.size - (intOf iv).toNat)
  case atStart => exact ⟨rfl, World.ownsRow_nil _ _ _ _, Below.refl _ _⟩
  case round =>
    obtain ⟨rfl, hO, hB⟩ := hrel
    have hbs := hB.size
    by_cases hlt : i < s.size
    · have i1 : (i : Int) < s.size := by omega
      have i2 : (0 : Int) ≤ i := by omega
      have i4 : decide (s.size ≤ i) = false := decide_eq_false (by omega)
      have b39 := bytes_n s[i] 39 39 rfl
      by_cases h39 : s[i] = 39
      · have hA2 : A = none := by rw [HA.out]; exact rune_mark (by rw [at_of s i hlt, h39])
        rw [decide_eq_true h39] at b39
        subst hA2
        have g39 : ((s[i].toNat : Int) != 39) = false := by rw [bne, b39]; rfl
        clear h39 HA
        go_wp2
        refine bodyPost_ret (results_tmp4 rfl _ _ _) rfl ⟨rfl, hB⟩
      · have hst := HA.out
        rw [rune_step (at_of s i hlt) h39] at hst
        rw [decide_eq_false h39] at b39
        have g39 : ((s[i].toNat : Int) != 39) = true := by rw [bne, b39]; rfl
        have hit := fun w => docitem_any s hs i hlt 39 (.inl rfl) w
        obtain ⟨X, hX⟩ : ∃ X, X = docItem 39 s[i] (s.data.toList.drop (i + 1)) := ⟨_, rfl⟩
        rw [← hX] at hst hit
        have HX := Lib.hid hX
        have hit' : ∀ w, Calls Try.prog 29 #[.string s, .int .i64 i, .int .u8 39] w fun e w' => e = .returned (item X) ∧ Below w.heap.size w w' := hit
        clear hit h39 HA hX
        cases X with
        | none =>
          have hA2 : A = none := hst
          subst hA2
          clear hst
          go_wp2_with (first
            | (go_at_call 29; refine (hit' _).mono ?_; rintro e w2 ⟨he, hB2⟩; have he' : e = .returned (.agg #[.int .i64 0, .string ⟨#[]⟩]) := he; clear he; subst he')
            | (refine wpList_store_rowTo rfl 56 (.tmp 11) (.tmp 72) rfl rfl _ #[.int .i64 0, .string ⟨#[]⟩] rfl rfl 56 _ (fresh_row _ _) info56 rfl (by simp [Value.oneCell']) ?_; obtain ⟨hI, hB3⟩ := itm_made (w2 := w2) 0 ⟨#[]⟩ #[.int .i64 0, .string ⟨#[]⟩]; generalize (w2.alloc (.cells #[.int .i64 0, .string ⟨#[]⟩] 56)).setRow w2.heap.size #[.int .i64 0, .string ⟨#[]⟩] = w3 at hI hB3 ⊢; have c0 := hI.c0; have HB3 := Lib.hid (hB.trans ((hB2.trans (hB3.mono hB2.size)).mono hbs)); clear hI hB3 hB2))
          refine bodyPost_ret (results_tmp4 rfl _ _ _) rfl ⟨rfl, HB3.out⟩
        | some x =>
          obtain ⟨L, n⟩ := x
          obtain ⟨l1, l2, l3⟩ := docItem_len HX.out.symm
          rw [List.length_drop, hlen] at l3
          obtain ⟨K2, hK2⟩ : ∃ K2, K2 = i + n := ⟨_, rfl⟩
          have hA2 := Lib.hid (show A = closeOf s.data.toList K2 L by rw [hK2]; exact hst)
          have hins : K2 ≤ s.size := by omega
          have e2 : (i : Int) + (n : Int) = (K2 : Int) := by omega
          have e3 : ((K2 : Int) == (i : Int)) = false := by rw [beq_eq_false_iff_ne]; omega
          have g0 : ((n : Int) == 0) = false := by rw [beq_eq_false_iff_ne]; omega
          obtain ⟨S, hS⟩ : ∃ S : ByteArray, S = ⟨L.toArray⟩ := ⟨_, rfl⟩
          have hSl : L = S.data.toList := by rw [hS]
          have hit2 : ∀ w, Calls Try.prog 29 #[.string s, .int .i64 i, .int .u8 39] w fun e w' => e = .returned (.agg #[.int .i64 n, .string S]) ∧ Below w.heap.size w w' := by rw [hS]; exact hit'
          subst hSl
          have hSs : S.data.toList.length = S.size := by simp
          rw [hSs] at l2
          have l4 : S.size ≤ 140737488351232 := by omega
          clear hst hit' hS HX l3 hSs hK2
          go_wp2_with (first
            | (go_at_call 29; refine (hit2 _).mono ?_; rintro e w2 ⟨rfl, hB2⟩)
            | (refine wpList_store_rowTo rfl 56 (.tmp 11) (.tmp 72) rfl rfl _ #[.int .i64 n, .string S] rfl rfl 56 _ (fresh_row _ _) info56 rfl (by simp [Value.oneCell']) ?_; obtain ⟨hI, hB3⟩ := itm_made (w2 := w2) n S #[.int .i64 0, .string ⟨#[]⟩]; generalize (w2.alloc (.cells #[.int .i64 0, .string ⟨#[]⟩] 56)).setRow w2.heap.size #[.int .i64 n, .string S] = w3 at hI hB3 ⊢; have c0 := hI.c0; have c1 := hI.c1; have hB4 := hB2.trans (hB3.mono hB2.size); have hO3 := hO.below hB4; have hB5 := hB.trans (hB4.mono hbs); have HI := Lib.hid hI; clear hI hB3 hB2 hB4))
          go_loopw [9, 12] (fun v jv wx => ∃ j : Nat, j ≤ S.size ∧ jv = .int .i64 j ∧ Own wx w.heap.size v ([] ++ S.data.toList.take j) ∧ Below w.heap.size w wx ∧ Hid (Itm wx w2.heap.size n S)) (fun _ jv _ => S.size - (intOf jv).toNat)
          case atStart => exact ⟨0, Nat.zero_le _, rfl, by simpa using hO3, hB5, HI⟩
          case round =>
            clear HI hB5 hO3 c0 c1
            obtain ⟨j, hj, rfl, hOx, hBx, hIx⟩ := hrel
            have c0 := hIx.out.c0
            have c1 := hIx.out.c1
            by_cases hjl : j < S.size
            · have j1 : (j : Int) < S.size := by omega
              have j2 : (0 : Int) ≤ j := by omega
              have hbx := hBx.size
              have hln : ([] ++ S.data.toList.take j).length ≤ 140737488351232 := by
                rw [List.length_append, List.length_nil]
                have := List.length_take_le j S.data.toList
                omega
              have HT := Lib.hid (show [] ++ S.data.toList.take (j + 1) = [] ++ S.data.toList.take j ++ [S[j]] by
                rw [List.append_assoc, List.take_succ_eq_append_getElem (by simpa using hjl)]; rfl)
              obtain ⟨C, hC⟩ : ∃ C, C = [] ++ S.data.toList.take j := ⟨_, rfl⟩
              rw [← hC] at hOx hln HT
              clear hC
              go_wp2_with (at_builtin; refine wpList_append_own _ rfl _ _ 32 rfl w.heap.size 5 i0 (.int .u8 0) 1 1 Try.underlying32 hi hz0 hz1 hz2 rfl (by decide) _ _ _ rfl (hOx.alloc _) ⟨wr.heap.size, 0, none⟩ 1 1 (bvals [S[j]]) rfl rfl (row_new _ _ _) ?_ ?_ ?_ ?_ ?_)
              · intro u hu; simp [bvals] at hu; subst hu; rfl
              · unfold maxLen; omega
              · omega
              · simp; omega
              intro v' w1 hown' hgrow _
              obtain ⟨hO1, hB1⟩ := hOx.grew hBx hbx (L := [S[j]]) hown' hgrow
              have hI1 := Lib.hid (hIx.out.grown hOx hgrow)
              rw [← HT.out] at hO1
              obtain ⟨ao, nn, cap, rfl⟩ := own_slice hown'
              clear hown' hgrow
              go_wp2_with fail
              go_roundw
              case rel => exact ⟨j + 1, by omega, by go_num, hO1, hB1, hI1⟩
              case measure => simp [intOf]; omega
            · have hje : j = S.size := by omega
              have j1 : ¬ (j : Int) < S.size := by omega
              rw [hje, List.take_of_length_le (by simp), List.nil_append] at hOx
              clear hje
              by_cases hin : K2 < s.size
              · have k1 : (K2 : Int) < s.size := by omega
                have k2 : (0 : Int) ≤ K2 := by omega
                have k4 : decide (s.size ≤ K2) = false := decide_eq_false (by omega)
                have c39 := bytes_n s[K2] 39 39 rfl
                have hA3 := hA2.out
                unfold closeOf at hA3
                rw [at_of s K2 hin] at hA3
                by_cases q39 : s[K2] = 39
                · have hz : A = some (S.data.toList, K2 + 1) := by rw [hA3, if_pos (by rw [q39])]
                  subst hz
                  rw [decide_eq_true q39] at c39
                  have f39 : ((s[K2].toNat : Int) != 39) = false := by rw [bne, c39]; rfl
                  have hcv := fun m => conv_drewN (w := wr) hOx.own m
                  clear hA3 q39 hA2
                  go_wp2
                  go_quiet (fail)
                  go_wp2
                  refine bodyPost_ret (results_tmp4 rfl _ _ _) rfl ⟨rfl, below_drewN hBx _⟩
                · have hz : A = none := by rw [hA3, if_neg (by simpa using q39)]
                  subst hz
                  rw [decide_eq_false q39] at c39
                  have f39 : ((s[K2].toNat : Int) != 39) = true := by rw [bne, c39]; rfl
                  clear hA3 q39 hA2
                  go_wp2
                  refine bodyPost_ret (results_tmp4 rfl _ _ _) rfl ⟨rfl, hBx⟩
              · have hz : A = none := by
                  rw [hA2.out]; unfold closeOf
                  rw [List.getElem?_eq_none (by simp; omega)]; simp
                subst hz
                have k4 : decide (s.size ≤ K2) = true := decide_eq_true (by omega)
                clear hA2
                go_wp2
                refine bodyPost_ret (results_tmp4 rfl _ _ _) rfl ⟨rfl, hBx⟩
    · have hAz : A = none := by rw [HA.out]; exact rune_end (by rw [hlen]; omega)
      subst hAz
      have i1 : ¬ (i : Int) < s.size := by omega
      have i3 : decide (s.size ≤ i) = true := decide_eq_true (by omega)
      clear HA
      go_wp2
      refine bodyPost_ret (results_tmp4 rfl _ _ _) rfl ⟨rfl, hB⟩
end Go.Proofs.Ytpbkdgbmnffooaa
