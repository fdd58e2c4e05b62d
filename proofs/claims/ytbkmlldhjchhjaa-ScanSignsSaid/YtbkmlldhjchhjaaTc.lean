/-
  Layer 7: contract of the law ScanWhole.
-/
import Derived.Test.YtbkmlldhjchhjaaSz
import Derived.Deep.RegionHeld3
import Derived.Deep.CutRange
import Derived.Outline
namespace Go.Proofs.Ytbkmlldhjchhjaa
open Go.ChangeShapes Go.WideShapes Go.ChangeAt Go.RowKit

theorem fault_neq (x y : Int) (w : World) : (binOp .neq 33 (.agg #[.int .i64 x, .int .i64 y]) (.agg #[.int .i64 0, .int .i64 0])).run Try.prog w = .ok (.bool (!(decide (x = 0) && decide (y = 0)))) w := by
  have ht : Try.prog.underlying 33 = some (.struct (Try.prog.fieldsOf 33)) := by kernel_rfl
  have hp : Try.prog.stoodInHeld 33 = false := by kernel_rfl
  have hf : (Try.prog.fieldsOf 33).toList.map (fun f => (f.name, f.type, f.offset)) = [("Err", 27, 0), ("At", 3, 1)] := by kernel_rfl
  rw [run_neq_struct, run_equalIn_agg _ 9999 33 _ _ ht hp]
  generalize (Try.prog.fieldsOf 33).toList = l at hf
  rcases l with _ | ⟨f1, _ | ⟨f2, _ | ⟨f3, l⟩⟩⟩ <;> simp at hf
  obtain ⟨⟨n1, t1, o1⟩, n2, t2, o2⟩ := hf
  have u3 : Try.prog.underlying 3 = some (.int .i64) := by kernel_rfl
  have u5 : Try.prog.underlying 27 = some (.int .i64) := by kernel_rfl
  by_cases hx : x = 0 <;> by_cases hy : y = 0 <;> simp [go_sem, n1, t1, o1, n2, t2, o2, u3, u5, hx, hy]
theorem fault_ngd (u v : Operand) (xs ys : Array Value) (w : World) : (eqGuard .neq 33 u v (.agg xs) (.agg ys)).run Try.prog w = .ok () w :=
  run_eqGuard_agg w .neq 33 u v xs ys (by kernel_rfl)
theorem all_cases (l : List UInt8) : (∃ f g : Int, allAns l = ([], f, g) ∧ f ≠ 0 ∧ 0 ≤ g ∧ g ≤ l.length) ∨ (∃ T, allAns l = (T, 0, 0) ∧ l.length ≤ 65536 ∧ Tiles l 0 T) := by
  unfold allAns
  by_cases h1 : 65536 < l.length
  · rw [if_pos h1]; exact .inl ⟨2, 0, rfl, by decide, by omega, by omega⟩
  rw [if_neg h1]
  by_cases h2 : 0 ≤ cleanAt l l.length 0
  · rw [if_pos h2]
    refine .inl ⟨3, _, rfl, by decide, h2, ?_⟩
    have : ∀ f p, p ≤ l.length → cleanAt l f p ≤ l.length := by
      intro f
      induction f with
      | zero => intro p _; show (-1 : Int) ≤ _; omega
      | succ f ih =>
        intro p hp
        unfold cleanAt
        split
        · split
          · omega
          · exact ih _ (drop_wide hp)
        · omega
    exact this _ _ (Nat.zero_le _)
  rw [if_neg h2]
  have hc : cleanAt l l.length 0 = -1 := by
    rcases cleanAt_ge l l.length 0 with e | e
    · exact e
    · exact absurd e h2
  cases ht : (toks l l.length 0).2 with
  | none =>
    refine .inr ⟨_, rfl, by omega, ?_⟩
    exact toks_tiles l _ 0 (fun g hg => by rw [← cleanAt_fuel l l.length g 0 (by omega) hg]; exact hc) (Nat.zero_le _) (by omega) ht
  | some p =>
    refine .inl ⟨4, p, rfl, by decide, by omega, ?_⟩
    have : ∀ f q, (toks l f q).2 = some p → p ≤ l.length := by
      intro f
      induction f with
      | zero => intro q h; cases h
      | succ f ih =>
        intro q h
        by_cases hq : q < l.length
        · rw [toks_step l f q hq] at h
          split at h
          · injection h with h; omega
          · exact ih _ h
        · rw [toks_end l _ q hq] at h; cases h
    have := this _ _ ht
    omega
theorem row_three {w3 : World} {b : Nat} {x y z u v t : Value} (h : w3.heap[b]? = some (.cells #[u, v, t] 26 (0, 0))) :
    (((w3.setCell ⟨b, 0, none⟩ x).setCell ⟨b, 1, none⟩ y).setCell ⟨b, 2, none⟩ z).heap[b]? = some (.cells #[x, y, z] 26 (0, 0)) := by
  have h1 := heap_setCell_same w3 b 0 _ 26 x h
  have h2 := heap_setCell_same _ b 1 _ 26 y h1
  exact heap_setCell_same _ b 2 _ 26 z h2
theorem tok_neqI (x y z : Int) (w : World) : (binOp .neq 26 (.agg #[.int .u8 x, .int .i64 y, .int .i64 z]) (.agg #[.int .u8 x, .int .i64 y, .int .i64 z])).run Try.prog w = .ok (.bool false) w := by
  have ht : Try.prog.underlying 26 = some (.struct (Try.prog.fieldsOf 26)) := by kernel_rfl
  have hp : Try.prog.stoodInHeld 26 = false := by kernel_rfl
  have hf : (Try.prog.fieldsOf 26).toList.map (fun f => (f.name, f.type, f.offset)) = [("Kind", 5, 0), ("From", 3, 1), ("To", 3, 2)] := by kernel_rfl
  rw [run_neq_struct, run_equalIn_agg _ 9999 26 _ _ ht hp]
  generalize (Try.prog.fieldsOf 26).toList = l at hf
  rcases l with _ | ⟨f1, _ | ⟨f2, _ | ⟨f3, _ | ⟨f4, l⟩⟩⟩⟩ <;> simp at hf
  obtain ⟨⟨n1, t1, o1⟩, ⟨n2, t2, o2⟩, n3, t3, o3⟩ := hf
  have u3 : Try.prog.underlying 3 = some (.int .i64) := by kernel_rfl
  have u5 : Try.prog.underlying 5 = some (.int .u8) := by kernel_rfl
  simp [go_sem, n1, t1, o1, n2, t2, o2, n3, t3, o3, u3, u5]
theorem bcell {W w1 : World} (hb : Below W.heap.size W w1) : (∀ b o, b < W.heap.size → w1.cell? ⟨b, o, none⟩ = W.cell? ⟨b, o, none⟩) ∧ (∀ b o, b < W.heap.size → w1.frozen? ⟨b, o, none⟩ = W.frozen? ⟨b, o, none⟩) :=
  ⟨fun b o h => hb.cell (p := ⟨b, o, none⟩) h, fun b o h => hb.frozen (p := ⟨b, o, none⟩) h⟩
theorem slice_str (s : ByteArray) (a b : Nat) (h1 : a ≤ b) (h2 : b ≤ s.size) (w : World) :
    (Instr.slice 9 (.string s) (some (.int .i64 (a : Int))) (some (.int .i64 (b : Int))) none).run Try.prog w = .ok (.string (s.extract a b)) w := by
  rw [run_slice_string _ 9 s .i64 .i64 _ _ Try.underlying9 (by omega) (by omega) (by omega)]
  simp
/-- scan.All, in plain words -/
theorem all_toks (s : ByteArray) (w : World) (hM : Mx w) : Calls Try.prog 22 #[.string s] w fun e w' => (∃ a cap, e = .returned (.tuple #[.slice a (allAns s.data.toList).1.length cap, .agg #[.int .i64 (allAns s.data.toList).2.1, .int .i64 (allAns s.data.toList).2.2]]) ∧ Toks w' a (allAns s.data.toList).1 ∧ (allAns s.data.toList).1.length ≤ maxLen) ∧ Below w.heap.size w w' := by
  refine (all_any s w hM).mono ?_
  rintro e w' ⟨⟨v, rfl, hO⟩, hB⟩
  obtain ⟨a, cap, rfl, hT, hL⟩ := own_toks hO
  exact ⟨⟨a, cap, rfl, hT, hL⟩, hB⟩
set_option maxRecDepth 100000 in
set_option maxHeartbeats 4000000 in
theorem whole_bad (s : ByteArray) (w : World) (hM : Mx w) (f g : Int) (hA : allAns s.data.toList = ([], f, g)) (hf : f ≠ 0) (hg0 : 0 ≤ g) (hg : g ≤ s.size) :
    Calls Try.prog 6 #[.string s] w fun e w' => e = .returned (.bool true) ∧ Below w.heap.size w w' := by
  have hM0 := hM.lt
  have HM := Lib.hid hM
  clear hM
  have h1 := fun w hM => all_toks s w hM
  rw [hA] at h1
  have hne := fun w => fault_neq f g w
  rw [decide_eq_false hf] at hne
  have hgd := fun u v w => fault_ngd u v #[.int .i64 f, .int .i64 g] #[.int .i64 0, .int .i64 0] w
  have q1 : (f != 0) = true := by simpa using hf
  clear hA hf
  go_enter Try.func6, Try.ntmps6
  go_wp2_with (first
    | (go_at_call 22; refine (h1 _ HM.out).mono ?_; rintro e w1 ⟨⟨a, ca, rfl, hTa, hLn⟩, hB1⟩; clear hTa hLn)
    | (refine wpList_store_rowTo rfl 33 (.tmp 4) (.tmp 13) rfl rfl w1.heap.size #[.int .i64 f, .int .i64 g] rfl rfl 33 #[.int .i64 0, .int .i64 0] (heap_alloc_new w1 _) info33 rfl (by simp [Value.oneCell']) ?_; have hX1 := setRow_heap _ w1.heap.size _ #[.int .i64 f, .int .i64 g] _ _ (heap_alloc_new w1 (.cells #[.int .i64 0, .int .i64 0] 33)); have hY1 : Below w1.heap.size w1 _ := below_setRow ((Below.refl _ w1).alloc (Nat.le_refl _) (.cells #[.int .i64 0, .int .i64 0] 33)) (Nat.le_refl _) #[.int .i64 f, .int .i64 g]; have hz1 : w1.heap.size < ((w1.alloc (.cells #[.int .i64 0, .int .i64 0] 33)).setRow w1.heap.size #[.int .i64 f, .int .i64 g]).heap.size := (Array.getElem?_eq_some_iff.1 hX1).1; generalize (w1.alloc (.cells #[.int .i64 0, .int .i64 0] 33)).setRow w1.heap.size #[.int .i64 f, .int .i64 g] = W1 at hX1 hY1 hz1 ⊢; have hBw := hB1.trans (hY1.mono hB1.size); have a0 := cell_of_row _ _ 0 _ _ _ hX1; have a1 := cell_of_row _ _ 1 _ _ _ hX1; simp only [List.getElem?_toArray, List.getElem?_cons_zero, List.getElem?_cons_succ] at a0 a1; clear hX1 hY1 hB1 hz1)
    | (go_at_call 17; refine (fixed7_any _ (HM.out.below hBw hM0)).mono ?_; rintro e w2 ⟨rfl, hB2⟩; replace a0 := (hB2.cell (p := ⟨_, 0, none⟩) (cell_lt a0)).trans a0; replace a1 := (hB2.cell (p := ⟨_, 1, none⟩) (cell_lt a1)).trans a1; replace hBw := below_chain hBw hB2; clear hB2))
  go_ret
  exact ⟨rfl, hBw⟩
set_option maxRecDepth 100000 in
set_option maxHeartbeats 4000000 in
theorem whole_good (s : ByteArray) (w : World) (hM : Mx w) (T : List (Nat × Nat × Nat)) (hA : allAns s.data.toList = (T, 0, 0)) (hs : s.size ≤ 65536) (hT : Tiles s.data.toList 0 T) :
    Calls Try.prog 6 #[.string s] w fun e w' => e = .returned (.bool true) ∧ Below w.heap.size w w' := by
  have hl : s.data.toList.length = s.size := by simp
  have hM0 := hM.lt
  have HM := Lib.hid hM
  clear hM
  have h1 := fun w hM => all_toks s w hM
  rw [hA] at h1
  have hne := fun w => fault_neq 0 0 w
  rw [show (!(decide ((0 : Int) = 0) && decide ((0 : Int) = 0))) = false from rfl] at hne
  have hgd := fun u v w => fault_ngd u v #[.int .i64 0, .int .i64 0] #[.int .i64 0, .int .i64 0] w
  obtain ⟨n, hn⟩ : ∃ n, n = T.length := ⟨_, rfl⟩
  dsimp only at h1
  rw [← hn] at h1
  have HN := Lib.hid hn
  have HT := Lib.hid hT
  have HL := Lib.hid hl
  clear hA hn hT hl
  go_enter Try.func6, Try.ntmps6
  go_wp2_with (first
    | (go_at_call 22; refine (h1 _ HM.out).mono ?_; rintro e w1 ⟨⟨a, ca, rfl, hTa, hLn⟩, hB1⟩; unfold maxLen at hLn; have HTA := Lib.hid hTa; clear hTa)
    | (refine wpList_store_rowTo rfl 33 (.tmp 4) (.tmp 13) rfl rfl w1.heap.size #[.int .i64 0, .int .i64 0] rfl rfl 33 #[.int .i64 0, .int .i64 0] (heap_alloc_new w1 _) info33 rfl (by simp [Value.oneCell']) ?_; have hX1 := setRow_heap _ w1.heap.size _ #[.int .i64 0, .int .i64 0] _ _ (heap_alloc_new w1 (.cells #[.int .i64 0, .int .i64 0] 33)); have hY1 : Below w1.heap.size w1 _ := below_setRow ((Below.refl _ w1).alloc (Nat.le_refl _) (.cells #[.int .i64 0, .int .i64 0] 33)) (Nat.le_refl _) #[.int .i64 0, .int .i64 0]; have hz1 : w1.heap.size < ((w1.alloc (.cells #[.int .i64 0, .int .i64 0] 33)).setRow w1.heap.size #[.int .i64 0, .int .i64 0]).heap.size := (Array.getElem?_eq_some_iff.1 hX1).1; generalize (w1.alloc (.cells #[.int .i64 0, .int .i64 0] 33)).setRow w1.heap.size #[.int .i64 0, .int .i64 0] = W1 at hX1 hY1 hz1 ⊢; have hBw := hB1.trans (hY1.mono hB1.size); have a0 := cell_of_row _ _ 0 _ _ _ hX1; have a1 := cell_of_row _ _ 1 _ _ _ hX1; simp only [List.getElem?_toArray, List.getElem?_cons_zero, List.getElem?_cons_succ] at a0 a1; replace HTA := Lib.hid (HTA.out.below hY1); clear hX1 hY1 hB1 hz1)
    | (go_at_call 17; refine (fixed7_any _ (HM.out.below hBw hM0)).mono ?_; rintro e w2 ⟨rfl, hB2⟩; replace a0 := (hB2.cell (p := ⟨_, 0, none⟩) (cell_lt a0)).trans a0; replace a1 := (hB2.cell (p := ⟨_, 1, none⟩) (cell_lt a1)).trans a1; replace HTA := Lib.hid (HTA.out.below hB2); replace hBw := below_chain hBw hB2; clear hB2))
  clear a0 a1 hne hgd h1
  go_loopw [5, 6] (fun pv kv wr => ∃ (k p : Nat), k ≤ n ∧ p ≤ s.size ∧ pv = .int .i64 p ∧ kv = .int .i64 k ∧ Hid (Tiles s.data.toList p (T.drop k)) ∧ Below w.heap.size w wr ∧ Hid (Toks wr a T)) (fun _ kv _ => n - (intOf kv).toNat)
  case atStart => exact ⟨0, 0, by omega, by omega, rfl, rfl, HT, hBw, HTA⟩
  case round =>
    clear HTA hBw
    obtain ⟨k, p, hk, hp, rfl, rfl, hTi, hB, hTk⟩ := hrel
    by_cases hlt : k < n
    · have j1 : (k : Int) < n := by omega
      have hkl : k < T.length := by rw [← HN.out]; exact hlt
      obtain ⟨x, hx⟩ : ∃ x, T[k]? = some x := ⟨T[k]'hkl, List.getElem?_eq_getElem hkl⟩
      have hd : T.drop k = x :: T.drop (k + 1) := by rw [List.drop_eq_getElem_cons hkl, (List.getElem?_eq_some_iff.1 hx).2]
      have hTi' := hTi.out
      rw [hd] at hTi'
      obtain ⟨hxe, hk0, hz1, hz2, hcl, hnx⟩ := hTi'
      have hag := one_again (hcl s.data.toList.length (by omega)) (by omega) (show p < s.data.toList.length by omega) hk0
      obtain ⟨⟨K, z⟩, hv⟩ : ∃ y, y = lexV s.data.toList p := ⟨_, rfl⟩
      rw [← hv] at hxe hz1 hz2 hag hnx
      dsimp only at hxe hz1 hz2 hag hnx
      subst hxe
      rw [HL.out] at hz2
      obtain ⟨g, rfl, c0, c1, c2⟩ := hTk.out k _ hx
      dsimp only at c0 c1 c2
      have HNX := Lib.hid hnx
      have hsz : (s.extract p z).size = z - p := by rw [ByteArray.size_extract]; omega
      have hon := fun w hM => one_any (s.extract p z) (by omega) 0 w hM
      rw [Num.extract_take, hag] at hon
      have e1 : (((z - p : Nat) : Nat) : Int) = (z : Int) - (p : Int) := by omega
      unfold oneV at hon
      rw [e1] at hon
      clear hsz hag hnx hTi hd hx hk0 hcl hv hkl e1
      have j2 : (p : Int) < z := by omega
      have j3 : (z : Int) ≤ s.size := by omega
      have hM1 := Lib.hid (HM.out.below hB hM0)
      have HTK := hTk
      clear hTk
      have hsl := fun w => slice_str s p z (by omega) (by omega) w
      have hgl : g < wr.heap.size := cell_lt c1
      have hn1 := World.new_ne wr _ c1
      have hn2 := World.new_ne wr _ c2
      by_cases h4 : k < 400
      · have j4 : (k : Int) < 400 := by omega
        go_wp2
        go_region_held3 (fun w' => w'.cell? ⟨g, k * 3 + 1, none⟩ = some (.int .i64 p) ∧ w'.cell? ⟨g, k * 3 + 2, none⟩ = some (.int .i64 z)) (go_keep)
          ((go_at_call 20; refine (hon _ (by first | exact hM1.out | exact hM1.out.alloc _)).mono ?_; rintro e w3 ⟨rfl, hB3⟩; obtain ⟨hc, hf⟩ := bcell hB3; have E1 : w3.cell? ⟨g, k * 3 + 1, none⟩ = some (.int .i64 p) := (hc g _ (by first | exact hgl | (simp; omega))).trans (by first | exact c1 | exact (World.cell?_alloc_lt wr _ _ hgl).trans c1); have E2 : w3.cell? ⟨g, k * 3 + 2, none⟩ = some (.int .i64 z) := (hc g _ (by first | exact hgl | (simp; omega))).trans (by first | exact c2 | exact (World.cell?_alloc_lt wr _ _ hgl).trans c2)))
        all_goals go_wp2
        · have hX0 : Below wr.heap.size wr w3 := (Below.refl _ wr).drew.trans hB3
          have hX : Below wr.heap.size wr (w3.alloc (.cells #[.int .u8 K, .int .i64 0, .int .i64 ((z : Int) - p)] 26)) := hX0.alloc hX0.size _
          have H := heap_alloc_new w3 (.cells #[.int .u8 K, .int .i64 0, .int .i64 ((z : Int) - p)] 26)
          clear hX0 hB3 hc hf
          try clear E1 E2
          generalize (w3.alloc (.cells #[.int .u8 K, .int .i64 0, .int .i64 ((z : Int) - p)] 26)) = X at hX H ⊢
          have d0 := cell_of_row _ _ 0 _ _ _ H
          have d1 := cell_of_row _ _ 1 _ _ _ H
          have d2 := cell_of_row _ _ 2 _ _ _ H
          simp only [List.getElem?_toArray, List.getElem?_cons_zero, List.getElem?_cons_succ] at d0 d1 d2
          have e0 := (hX.cell (p := ⟨g, k * 3, none⟩) hgl).trans c0
          have e1 := (hX.cell (p := ⟨g, k * 3 + 1, none⟩) hgl).trans c1
          have e2 := (hX.cell (p := ⟨g, k * 3 + 2, none⟩) hgl).trans c2
          have HTX := Lib.hid (HTK.out.below hX)
          have hBX := hB.trans (hX.mono hB.size)
          have hne := fun w => tok_neqI K 0 ((z : Int) - p) w
          have hgd := fun u v w => tok_guard u v #[.int .u8 K, .int .i64 0, .int .i64 ((z : Int) - p)] #[.int .u8 K, .int .i64 0, .int .i64 ((z : Int) - p)] w
          have hwr : IntKind.i64.wrap ((z : Int) - (p : Int)) = (z : Int) - (p : Int) := by rw [IntKind.wrap_i64]; omega
          have j0 : (0 : Int) ≤ k := by omega
          clear H hX HTK hB c0 c1 c2 hsl hon hn1 hn2
          go_quiet (fail)
          go_wp2
          go_roundw
          case rel => exact ⟨k + 1, z, by omega, by omega, rfl, by go_num, HNX, below_drewN hBX _, HTX⟩
          case measure => simp [intOf]; omega
        · have hX0 : Below wr.heap.size wr w3 := ((Below.refl _ wr).alloc (Nat.le_refl _) _).drew.trans (hB3.mono (by simp))
          have H0 := (hB3.block wr.heap.size (by simp)).trans (heap_alloc_new wr (.cells #[.int .u8 0, .int .i64 0, .int .i64 0] 26))
          have H := row_three (x := .int .u8 K) (y := .int .i64 0) (z := .int .i64 ((z : Int) - p)) H0
          have hX := ((hX0.setCell (p := ⟨wr.heap.size, 0, none⟩) (Nat.le_refl _) (.int .u8 K)).setCell (p := ⟨wr.heap.size, 1, none⟩) (Nat.le_refl _) (.int .i64 0)).setCell (p := ⟨wr.heap.size, 2, none⟩) (Nat.le_refl _) (.int .i64 ((z : Int) - p))
          clear hX0 H0 hB3 hc hf
          try clear E1 E2
          generalize (((w3.setCell ⟨wr.heap.size, 0, none⟩ (.int .u8 K)).setCell ⟨wr.heap.size, 1, none⟩ (.int .i64 0)).setCell ⟨wr.heap.size, 2, none⟩ (.int .i64 ((z : Int) - p))) = X at hX H ⊢
          have d0 := cell_of_row _ _ 0 _ _ _ H
          have d1 := cell_of_row _ _ 1 _ _ _ H
          have d2 := cell_of_row _ _ 2 _ _ _ H
          simp only [List.getElem?_toArray, List.getElem?_cons_zero, List.getElem?_cons_succ] at d0 d1 d2
          have e0 := (hX.cell (p := ⟨g, k * 3, none⟩) hgl).trans c0
          have e1 := (hX.cell (p := ⟨g, k * 3 + 1, none⟩) hgl).trans c1
          have e2 := (hX.cell (p := ⟨g, k * 3 + 2, none⟩) hgl).trans c2
          have HTX := Lib.hid (HTK.out.below hX)
          have hBX := hB.trans (hX.mono hB.size)
          have hne := fun w => tok_neqI K 0 ((z : Int) - p) w
          have hgd := fun u v w => tok_guard u v #[.int .u8 K, .int .i64 0, .int .i64 ((z : Int) - p)] #[.int .u8 K, .int .i64 0, .int .i64 ((z : Int) - p)] w
          have hwr : IntKind.i64.wrap ((z : Int) - (p : Int)) = (z : Int) - (p : Int) := by rw [IntKind.wrap_i64]; omega
          have j0 : (0 : Int) ≤ k := by omega
          clear H hX HTK hB c0 c1 c2 hsl hon hn1 hn2
          go_quiet (fail)
          go_wp2
          go_roundw
          case rel => exact ⟨k + 1, z, by omega, by omega, rfl, by go_num, HNX, below_drewN hBX _, HTX⟩
          case measure => simp [intOf]; omega
      · have j4 : ¬ (k : Int) < 400 := by omega
        go_wp2
        go_roundw
        case rel => exact ⟨k + 1, z, by omega, by omega, rfl, by go_num, HNX, hB, HTK⟩
        case measure => simp [intOf]; omega
    · obtain rfl : k = n := by omega
      have hps : p = s.size := by
        have := hTi.out
        rw [HN.out, List.drop_length] at this
        have : p = s.data.toList.length := this
        rw [this, HL.out]
      subst hps
      go_wp2
      go_ret
      exact ⟨rfl, hB⟩
theorem lawwhole_any (s : ByteArray) (w : World) (hM : Mx w) :
    Calls Try.prog 6 #[.string s] w fun e w' => e = .returned (.bool true) ∧ Below w.heap.size w w' := by
  have hl : s.data.toList.length = s.size := by simp
  rcases all_cases s.data.toList with ⟨f, g, h1, h2, h3, h4⟩ | ⟨T, h1, h2, h3⟩
  · exact whole_bad s w hM f g h1 h2 h3 (by omega)
  · exact whole_good s w hM T h1 (by omega) h3
end Go.Proofs.Ytbkmlldhjchhjaa
