/-
  Layer 6: the document's Begun: strings.
-/
import Derived.Test.YtpbkdgbmnffooaaV
import Derived.Test.YtpbkdgbmnffooaaW
namespace Go.Proofs.Ytpbkdgbmnffooaa
open Go.ChangeShapes Go.WideShapes Go.ChangeAt Go.RowKit

theorem Own.below {w w' : World} {B : Nat} {v : Value} {T : List UInt8} (h : Own w B v T) (hB : Below w.heap.size w w') : Own w' B v T := by
  refine ⟨h.1, ?_⟩
  rcases h.2 with h | ⟨g, cap, cur, e, hb, hg, r⟩
  · exact .inl h
  · exact .inr ⟨g, cap, cur, e, hb, by rw [hB.block g (Array.getElem?_eq_some_iff.1 hg).1]; exact hg, r⟩
/-- an item as it lies in memory -/
def Itm (w : World) (g : Nat) (n : Int) (S : ByteArray) : Prop := w.heap[g]? = some (.cells #[.int .i64 n, .string S] 56 (0, 0))
theorem Itm.c0 {w : World} {g : Nat} {n : Int} {S : ByteArray} (h : Itm w g n S) : w.cell? ⟨g, 0, none⟩ = some (.int .i64 n) := by
  unfold World.cell?; rw [h]; rfl
theorem Itm.c1 {w : World} {g : Nat} {n : Int} {S : ByteArray} (h : Itm w g n S) : w.cell? ⟨g, 1, none⟩ = some (.string S) := by
  unfold World.cell?; rw [h]; rfl
theorem Itm.lt {w : World} {g : Nat} {n : Int} {S : ByteArray} (h : Itm w g n S) : g < w.heap.size := (Array.getElem?_eq_some_iff.1 h).1
theorem Itm.ne {w : World} {g B : Nat} {n : Int} {S : ByteArray} {v : Value} {T : List UInt8} (h : Itm w g n S) (hO : Own w B v T) : some g ≠ v.ownBlock := by
  intro e
  rcases hO.2 with ⟨rfl, _⟩ | ⟨g', cap, cur, rfl, _, hg, _⟩
  · cases e
  · have e' : g = g' := by simpa [Value.ownBlock] using e
    subst e'
    unfold Itm at h
    rw [hg] at h
    cases h
theorem Itm.grown {wr w1 : World} {g B : Nat} {n : Int} {S : ByteArray} {v : Value} {T : List UInt8} {o : Obj} (h : Itm wr g n S) (hO : Own wr B v T) (hg : (wr.alloc o).grownBy w1 v.ownBlock) : Itm w1 g n S := by
  have hl := h.lt
  have h1 : (wr.alloc o).heap[g]? = wr.heap[g]? := by
    show (wr.heap.push o)[g]? = _
    rw [Array.getElem?_push, if_neg (by omega)]
  unfold Itm
  rw [hg.block g (by simp; omega) (h.ne hO), h1]
  exact h
/-- behind the call that makes an item: the item laid into a block of its own -/
theorem itm_made {w2 : World} (n : Int) (S : ByteArray) (o : Array Value) : Itm ((w2.alloc (.cells o 56)).setRow w2.heap.size #[.int .i64 n, .string S]) w2.heap.size n S ∧ Below w2.heap.size w2 ((w2.alloc (.cells o 56)).setRow w2.heap.size #[.int .i64 n, .string S]) :=
  ⟨setRow_at (fresh_row w2 _), below_setRow ((Below.refl _ w2).alloc (Nat.le_refl _) _) (Nat.le_refl _) _⟩
set_option maxRecDepth 100000 in
set_option maxHeartbeats 4000000 in
theorem begun_str (s : ByteArray) (hs : s.size ≤ 140737488351232) (k : Nat) (hk : k < s.size) (hc : s[k] = 34) (w : World) :
    Calls Try.prog 21 #[.string s, .int .i64 k] w fun e w' => e = .returned (begAns ((strOf s.data.toList (s.size - (k + 1)) (k + 1) []).map fun x => (7, x))) ∧ Below w.heap.size w w' := by
  obtain ⟨i0, hi, hz0, hz1, hz2⟩ := info_parts info5
  obtain ⟨A, hA⟩ : ∃ A, A = strOf s.data.toList (s.size - (k + 1)) (k + 1) [] := ⟨_, rfl⟩
  rw [← hA]
  have HA := Lib.hid hA
  have hcn : (s[k].toNat : Int) = 34 := by rw [hc]; rfl
  have d1 : (k : Int) < s.size := by omega
  have d2 : (0 : Int) ≤ k := by omega
  have d3 : decide ((k : Int) < 0) = false := decide_eq_false (by omega)
  have d4 : decide (s.size ≤ k) = false := decide_eq_false (by omega)
  clear hA hc
  go_enter Try.func21, Try.ntmps21
  go_wp2
  go_loopw [9, 10] (fun v iv wr => ∃ (i f : Nat) (T : List UInt8), i ≤ s.size ∧ s.size - i ≤ f ∧ T.length ≤ i ∧ iv = .int .i64 i ∧ Own wr w.heap.size v T ∧ Below w.heap.size w wr ∧ Hid (A = strOf s.data.toList f i T)) (fun _ iv _ => s.size - (intOf iv).toNat)
  case atStart => exact ⟨k + 1, _, [], by omega, Nat.le_refl _, by simp, by go_num, World.ownsRow_nil _ _ _ _, Below.refl _ _, HA⟩
  case round =>
    clear HA
    obtain ⟨i, f, T, hi', hf, hTi, rfl, hO, hB, hAi⟩ := hrel
    have hbs := hB.size
    by_cases hlt : i < s.size
    · obtain ⟨f', rfl⟩ : ∃ f', f = f' + 1 := ⟨f - 1, by omega⟩
      have i1 : (i : Int) < s.size := by omega
      have i2 : (0 : Int) ≤ i := by omega
      have b34 := bytes_n s[i] 34 34 rfl
      by_cases h34 : s[i] = 34
      · have hA2 : A = some (T, i + 1) := by rw [hAi.out, strOf_some f' T (at_of s i hlt), if_pos h34]
        rw [decide_eq_true h34] at b34
        subst hA2
        have hcv := fun m => conv_drewN (w := wr) hO.own m
        have g34 : ((s[i].toNat : Int) != 34) = false := by rw [bne, b34]; rfl
        clear h34 hAi
        go_wp2
        go_quiet (fail)
        go_wp2
        refine bodyPost_ret (results_tmp4 rfl _ _ _) rfl ⟨rfl, below_drewN hB _⟩
      · have hst := hAi.out
        rw [str_step f' T (at_of s i hlt) h34] at hst
        rw [decide_eq_false h34] at b34
        have g34 : ((s[i].toNat : Int) != 34) = true := by rw [bne, b34]; rfl
        have hit := fun w => docitem_any s hs i hlt 34 (.inr rfl) w
        obtain ⟨X, hX⟩ : ∃ X, X = docItem 34 s[i] (s.data.toList.drop (i + 1)) := ⟨_, rfl⟩
        rw [← hX] at hst hit
        have HX := Lib.hid hX
        have hit' : ∀ w, Calls Try.prog 29 #[.string s, .int .i64 i, .int .u8 34] w fun e w' => e = .returned (item X) ∧ Below w.heap.size w w' := hit
        clear hit h34 hAi hX
        cases X with
        | none =>
          have hA2 : A = none := hst
          subst hA2
          clear hst
          go_wp2_with (first
            | (go_at_call 29; refine (hit' _).mono ?_; rintro e w2 ⟨he, hB2⟩; have he' : e = .returned (.agg #[.int .i64 0, .string ⟨#[]⟩]) := he; clear he; subst he')
            | (refine wpList_store_rowTo rfl 56 (.tmp 11) (.tmp 72) rfl rfl _ #[.int .i64 0, .string ⟨#[]⟩] rfl rfl 56 _ (fresh_row _ _) info56 rfl (by simp [Value.oneCell']) ?_; obtain ⟨hI, hB3⟩ := itm_made (w2 := w2) 0 ⟨#[]⟩ #[.int .i64 0, .string ⟨#[]⟩]; generalize (w2.alloc (.cells #[.int .i64 0, .string ⟨#[]⟩] 56)).setRow w2.heap.size #[.int .i64 0, .string ⟨#[]⟩] = w3 at hI hB3 ⊢; have c0 := hI.c0; have HB3 := Lib.hid (hB.trans ((hB2.trans (hB3.mono hB2.size)).mono hbs)); clear hI hB3 hB2))
          refine bodyPost_ret (results_tmp4 rfl _ _ _) rfl ⟨rfl, HB3.out⟩
        | some x =>
          obtain ⟨L, n⟩ := x
          have hA2 := Lib.hid (show A = strOf s.data.toList f' (i + n) (T ++ L) from hst)
          obtain ⟨l1, l2, l3⟩ := docItem_len HX.out.symm
          rw [List.length_drop, show s.data.toList.length = s.size by simp] at l3
          have hins : i + n ≤ s.size := by omega
          have g0 : ((n : Int) == 0) = false := by rw [beq_eq_false_iff_ne]; omega
          obtain ⟨S, hS⟩ : ∃ S : ByteArray, S = ⟨L.toArray⟩ := ⟨_, rfl⟩
          have hSl : L = S.data.toList := by rw [hS]
          have hit2 : ∀ w, Calls Try.prog 29 #[.string s, .int .i64 i, .int .u8 34] w fun e w' => e = .returned (.agg #[.int .i64 n, .string S]) ∧ Below w.heap.size w w' := by rw [hS]; exact hit'
          subst hSl
          have hSs : S.data.toList.length = S.size := by simp
          rw [hSs] at l2
          clear hst hit' hS HX l3 hSs
          go_wp2_with (first
            | (go_at_call 29; refine (hit2 _).mono ?_; rintro e w2 ⟨rfl, hB2⟩)
            | (refine wpList_store_rowTo rfl 56 (.tmp 11) (.tmp 72) rfl rfl _ #[.int .i64 n, .string S] rfl rfl 56 _ (fresh_row _ _) info56 rfl (by simp [Value.oneCell']) ?_; obtain ⟨hI, hB3⟩ := itm_made (w2 := w2) n S #[.int .i64 0, .string ⟨#[]⟩]; generalize (w2.alloc (.cells #[.int .i64 0, .string ⟨#[]⟩] 56)).setRow w2.heap.size #[.int .i64 n, .string S] = w3 at hI hB3 ⊢; have c0 := hI.c0; have c1 := hI.c1; have hB4 := hB2.trans (hB3.mono hB2.size); have hO3 := hO.below hB4; have hB5 := hB.trans (hB4.mono hbs); have HI := Lib.hid hI; clear hI hB3 hB2 hB4))
          go_loopw [9, 12] (fun v jv wx => ∃ j : Nat, j ≤ S.size ∧ jv = .int .i64 j ∧ Own wx w.heap.size v (T ++ S.data.toList.take j) ∧ Below w.heap.size w wx ∧ Hid (Itm wx w2.heap.size n S)) (fun _ jv _ => S.size - (intOf jv).toNat)
          case atStart => exact ⟨0, Nat.zero_le _, rfl, by simpa using hO3, hB5, HI⟩
          case round =>
            clear HI hB5 hO3 c0 c1
            obtain ⟨j, hj, rfl, hOx, hBx, hIx⟩ := hrel
            have c0 := hIx.out.c0
            have c1 := hIx.out.c1
            by_cases hjl : j < S.size
            · have j1 : (j : Int) < S.size := by omega
              have j2 : (0 : Int) ≤ j := by omega
              have hbx := hBx.size
              have hln : (T ++ S.data.toList.take j).length ≤ 140737488351232 := by
                rw [List.length_append]
                have := List.length_take_le j S.data.toList
                omega
              have HT := Lib.hid (show T ++ S.data.toList.take (j + 1) = T ++ S.data.toList.take j ++ [S[j]] by
                rw [List.append_assoc, List.take_succ_eq_append_getElem (by simpa using hjl)]; rfl)
              obtain ⟨C, hC⟩ : ∃ C, C = T ++ S.data.toList.take j := ⟨_, rfl⟩
              rw [← hC] at hOx hln HT
              clear hC
              go_wp2_with (at_builtin; refine wpList_append_own _ rfl _ _ 32 rfl w.heap.size 5 i0 (.int .u8 0) 1 1 Try.underlying32 hi hz0 hz1 hz2 rfl (by decide) _ _ _ rfl (hOx.alloc _) ⟨wr.heap.size, 0, none⟩ 1 1 (bvals [S[j]]) rfl rfl (row_new _ _ _) ?_ ?_ ?_ ?_ ?_)
              · intro u hu; simp [bvals] at hu; subst hu; rfl
              · unfold maxLen; omega
              · omega
              · simp; omega
              intro v' w1 hown' hgrow _
              obtain ⟨hO1, hB1⟩ := hOx.grew hBx hbx (L := [S[j]]) hown' hgrow
              have hI1 := Lib.hid (hIx.out.grown hOx hgrow)
              rw [← HT.out] at hO1
              obtain ⟨ao, nn, cap, rfl⟩ := own_slice hown'
              clear hown' hgrow
              go_wp2_with fail
              go_roundw
              case rel => exact ⟨j + 1, by omega, by go_num, hO1, hB1, hI1⟩
              case measure => simp [intOf]; omega
            · have hje : j = S.size := by omega
              have j1 : ¬ (j : Int) < S.size := by omega
              rw [hje, List.take_of_length_le (by simp)] at hOx
              clear hje
              go_wp2_with fail
              go_roundw
              case rel => exact ⟨i + n, f', T ++ S.data.toList, hins, by omega, by rw [List.length_append]; simp; omega, by go_num, hOx, hBx, hA2⟩
              case measure => simp [intOf]; omega
    · have hAz : A = none := by rw [hAi.out]; exact strOf_none _ _ (List.getElem?_eq_none (by simp; omega))
      subst hAz
      have i1 : ¬ (i : Int) < s.size := by omega
      have i3 : decide (s.size ≤ i) = true := decide_eq_true (by omega)
      clear hAi
      go_wp2
      refine bodyPost_ret (results_tmp4 rfl _ _ _) rfl ⟨rfl, hB⟩
end Go.Proofs.Ytpbkdgbmnffooaa
