/-
  Layer 7: contract of the law ScanLong.
-/
import Derived.Test.YtbkmlldhjchhjaaSv
import Derived.Test.YtbkmlldhjchhjaaTc
import Derived.Laws.BytesString
import Derived.Laws.Cells
import Derived.Laws.MakeOwn
namespace Go.Proofs.Ytbkmlldhjchhjaa
open Go.ChangeShapes Go.WideShapes Go.ChangeAt Go.RowKit

theorem tok_eqI (x y z : Int) (w : World) : (binOp .eql 26 (.agg #[.int .u8 x, .int .i64 y, .int .i64 z]) (.agg #[.int .u8 x, .int .i64 y, .int .i64 z])).run Try.prog w = .ok (.bool true) w := by
  have ht : Try.prog.underlying 26 = some (.struct (Try.prog.fieldsOf 26)) := by kernel_rfl
  have hp : Try.prog.stoodInHeld 26 = false := by kernel_rfl
  have hf : (Try.prog.fieldsOf 26).toList.map (fun f => (f.name, f.type, f.offset)) = [("Kind", 5, 0), ("From", 3, 1), ("To", 3, 2)] := by kernel_rfl
  rw [run_eql_struct, run_equalIn_agg _ 9999 26 _ _ ht hp]
  generalize (Try.prog.fieldsOf 26).toList = l at hf
  rcases l with _ | ⟨f1, _ | ⟨f2, _ | ⟨f3, _ | ⟨f4, l⟩⟩⟩⟩ <;> simp at hf
  obtain ⟨⟨n1, t1, o1⟩, ⟨n2, t2, o2⟩, n3, t3, o3⟩ := hf
  have u3 : Try.prog.underlying 3 = some (.int .i64) := by kernel_rfl
  have u5 : Try.prog.underlying 5 = some (.int .u8) := by kernel_rfl
  simp [go_sem, n1, t1, o1, n2, t2, o2, n3, t3, o3, u3, u5]
theorem fold_bytes (ns : List Int) : ∀ s : ByteArray, (ns.foldl (fun r n => r.push (UInt8.ofNat n.toNat)) s).data.toList = s.data.toList ++ ns.map fun n => UInt8.ofNat n.toNat := by
  induction ns with
  | nil => intro s; simp
  | cons n t ih => intro s; rw [List.foldl_cons, ih]; simp
theorem conv_blanks {w : World} {g : Nat} {cs : Array Value} (n c : Nat) (S : ByteArray) (hS : S.data.toList = List.replicate n 32) (h : w.heap[g]? = some (.cells cs 5 (0, 0))) (hall : ∀ j, j < n → cs[j]? = some (.int .u8 32)) :
    (convert 39 9 (.slice (some ⟨g, 0, none⟩) n c)).run Try.prog w = .ok (.string S) w := by
  rw [run_convert_bytes_string _ 39 9 5 _ _ _ Try.underlying39 Try.underlying5 Try.underlying9, run_bytesToString _ _ _ _ (List.replicate n (32 : Int))]
  · congr 2
    have h1 := fold_bytes (List.replicate n (32 : Int)) ByteArray.empty
    have h2 : (ByteArray.empty.data.toList ++ (List.replicate n (32 : Int)).map fun n => UInt8.ofNat n.toNat) = List.replicate n 32 := by
      rw [List.map_replicate]; rfl
    rw [h2, ← hS] at h1
    apply ByteArray.ext
    apply Array.ext'
    exact h1
  · have := run_loadCells_list (P := Try.prog) (w := w) ⟨g, 0, none⟩ (List.replicate n (Value.int .u8 32)) (fun j v hj => by
      have ha : (⟨g, 0, none⟩ : Addr).add j = ⟨g, j, none⟩ := by unfold Addr.add; split <;> simp_all
      rw [ha]
      unfold World.cell?
      simp only [h]
      have hj2 := List.getElem?_eq_some_iff.1 hj
      obtain ⟨h3, h4⟩ := hj2
      rw [List.length_replicate] at h3
      rw [List.getElem_replicate] at h4
      rw [← h4]
      exact hall j h3)
    rw [List.length_replicate] at this
    rw [List.map_replicate]
    exact this
theorem info5z : (Try.prog.info? 5).map (fun i => (i.zero, i.size, i.bytes)) = some (some (.int .u8 0), 1, 1) := by kernel_rfl
theorem make_long : ∃ cs : Array Value, cs.size = 65537 ∧ ∀ u : World, (Instr.makeSlice 39 (.int .i64 65537) (.int .i64 65537)).run Try.prog u = .ok (.slice (some ⟨u.heap.size, 0, none⟩) 65537 65537) (u.alloc (.cells cs 5)) := by
  obtain ⟨i0, hi, hz0, hz1, hz2⟩ := info_parts info5z
  refine ⟨madeCells #[.int .u8 0] 65537, by simp [size_madeCells], fun u => ?_⟩
  have h := run_make (P := Try.prog) u 39 5 i0 (.int .u8 0) Try.underlying39 hi hz0 .i64 .i64 65537 65537 (by omega) (Int.le_refl _) (by rw [hz2]; omega) (by omega)
  simpa [hz1, Value.cells] using h
/-- what the law asks of the two texts -/
theorem long_one (S : ByteArray) (hS : S.data.toList = List.replicate 65536 32) (w : World) (hM : Mx w) : Calls Try.prog 22 #[.string S] w fun e w' => (∃ g cap, e = .returned (.tuple #[.slice (some ⟨g, 0, none⟩) 1 cap, .agg #[.int .i64 0, .int .i64 0]]) ∧ w'.cell? ⟨g, 0, none⟩ = some (.int .u8 10) ∧ w'.cell? ⟨g, 1, none⟩ = some (.int .i64 0) ∧ w'.cell? ⟨g, 2, none⟩ = some (.int .i64 65536)) ∧ Below w.heap.size w w' := by
  refine (all_toks S w hM).mono ?_
  rw [hS, blanks_all 65535 (by decide)]
  rintro e w' ⟨⟨a, cap, rfl, hT, _⟩, hB⟩
  obtain ⟨g, rfl, c0, c1, c2⟩ := hT 0 (10, 0, 65536) rfl
  exact ⟨⟨g, cap, rfl, c0, c1, c2⟩, hB⟩
theorem long_two (S : ByteArray) (hS : S.data.toList = List.replicate 65537 32) (w : World) (hM : Mx w) : Calls Try.prog 22 #[.string S] w fun e w' => (∃ a cap, e = .returned (.tuple #[.slice a 0 cap, .agg #[.int .i64 2, .int .i64 0]])) ∧ Below w.heap.size w w' := by
  refine (all_toks S w hM).mono ?_
  rw [hS, blanks_long 65537 (by decide)]
  rintro e w' ⟨⟨a, cap, rfl, _, _⟩, hB⟩
  exact ⟨⟨a, cap, rfl⟩, hB⟩
set_option maxRecDepth 100000 in
set_option maxHeartbeats 8000000 in
theorem lawlong_any (w : World) (hM : Mx w) :
    Calls Try.prog 9 #[] w fun e w' => e = .returned (.bool true) ∧ Below w.heap.size w w' := by
  have hM0 := hM.lt
  have HM := Lib.hid hM
  clear hM
  obtain ⟨cs, hcs, hmk⟩ := make_long
  obtain ⟨S1, hS1⟩ : ∃ S : ByteArray, S.data.toList = List.replicate 65536 32 := ⟨⟨(List.replicate 65536 32).toArray⟩, rfl⟩
  obtain ⟨S2, hS2⟩ : ∃ S : ByteArray, S.data.toList = List.replicate 65537 32 := ⟨⟨(List.replicate 65537 32).toArray⟩, rfl⟩
  have h1 := long_one S1 hS1
  have h2 := long_two S2 hS2
  have HS1 := Lib.hid hS1
  have HS2 := Lib.hid hS2
  have hz0 : (w.alloc (.cells cs 5)).heap.size = w.heap.size + 1 := by simp
  have HB0 := Lib.hid (show Below w.heap.size w (w.alloc (.cells cs 5)) from (Below.refl _ _).alloc (Nat.le_refl _) _)
  have HH0 := Lib.hid (show (w.alloc (.cells cs 5)).heap[w.heap.size]? = some (.cells cs 5 (0, 0)) from heap_alloc_new w _)
  have HCS := Lib.hid hcs
  clear hS1 hS2 hcs hz0
  have TOK := True.intro
  go_enter Try.func9, Try.ntmps9
  go_wp2
  go_loopw [2] (fun kv wr => ∃ (k : Nat) (ds : Array Value), k ≤ 65537 ∧ kv = .int .i64 k ∧ Hid (ds.size = 65537) ∧ Hid (wr.heap[w.heap.size]? = some (.cells ds 5 (0, 0))) ∧ Hid (∀ j, j < k → ds[j]? = some (.int .u8 32)) ∧ Below w.heap.size w wr) (fun kv _ => 65537 - (intOf kv).toNat)
  case atStart => exact ⟨0, cs, by omega, rfl, HCS, HH0, Lib.hid (fun j hj => absurd hj (Nat.not_lt_zero _)), HB0.out⟩
  case round =>
    obtain ⟨k, ds, hk, rfl, HDS, HBK, HAL, hB⟩ := hrel
    by_cases hlt : k < 65537
    · have j1 : (k : Int) < 65537 := by omega
      have j0 : (0 : Int) ≤ k := by omega
      obtain ⟨v, hv⟩ : ∃ v, ds[k]? = some v := ⟨ds[k]'(by rw [HDS.out]; exact hlt), Array.getElem?_eq_getElem (by rw [HDS.out]; exact hlt)⟩
      have hc : wr.cell? ⟨w.heap.size, k, none⟩ = some v := (cell_of_row wr w.heap.size k ds 5 (0, 0) HBK.out).trans hv
      have hf : wr.frozen? ⟨w.heap.size, k, none⟩ = false := by unfold World.frozen?; simp [HBK.out]
      clear hv
      go_wp2
      go_roundw
      case rel =>
        refine ⟨k + 1, ds.setIfInBounds k (.int .u8 32), by omega, by go_num, Lib.hid (by rw [Array.size_setIfInBounds]; exact HDS.out), Lib.hid (heap_setCell_same wr w.heap.size k ds 5 _ HBK.out), Lib.hid (fun j hj => ?_), hB.setCell (Nat.le_refl _) _⟩
        rw [Array.getElem?_setIfInBounds]
        by_cases h : k = j
        · rw [if_pos h, if_pos (by rw [HDS.out]; exact hlt)]
        · rw [if_neg h]; exact HAL.out j (by omega)
      case measure => simp [intOf]; omega
    · obtain rfl : k = 65537 := by omega
      have hcv := conv_blanks 65536 65537 S1 HS1.out HBK.out (fun j hj => HAL.out j (by omega))
      have hM1 := HM.out.below hB hM0
      have HM1 := Lib.hid hM1
      clear hM1
      have hne := fun w => fault_eq 0 0 w
      have hgd := fun u v w => fault_guard u v #[.int .i64 0, .int .i64 0] #[.int .i64 0, .int .i64 0] w
      have hne2 := fun w => fault_eq 2 0 w
      have hgd2 := fun u v w => fault_guard u v #[.int .i64 2, .int .i64 0] #[.int .i64 2, .int .i64 0] w
      have hte := fun w => tok_eqI 10 0 65536 w
      have htg := fun u v w => tok_guard2 u v #[.int .u8 10, .int .i64 0, .int .i64 65536] #[.int .u8 10, .int .i64 0, .int .i64 65536] w
      go_wp2_with (first
        | (go_at_call 22; clear TOK; refine (h1 _ HM1.out).mono ?_; rintro e w1 ⟨⟨g, ca, rfl, c0, c1, c2⟩, hB1⟩; replace HBK := Lib.hid ((hB1.block w.heap.size (Array.getElem?_eq_some_iff.1 HBK.out).1).trans HBK.out); replace hB := hB.trans (hB1.mono hB.size); clear hB1 hcv HM1)
        | (refine wpList_store_rowTo rfl 33 (.tmp 4) (.tmp 23) rfl rfl w1.heap.size #[.int .i64 0, .int .i64 0] rfl rfl 33 #[.int .i64 0, .int .i64 0] (heap_alloc_new w1 _) info33 rfl (by simp [Value.oneCell']) ?_; have hX1 := setRow_heap _ w1.heap.size _ #[.int .i64 0, .int .i64 0] _ _ (heap_alloc_new w1 (.cells #[.int .i64 0, .int .i64 0] 33)); have hY1 : Below w1.heap.size w1 _ := below_setRow ((Below.refl _ w1).alloc (Nat.le_refl _) (.cells #[.int .i64 0, .int .i64 0] 33)) (Nat.le_refl _) #[.int .i64 0, .int .i64 0]; have hz1 : w1.heap.size < ((w1.alloc (.cells #[.int .i64 0, .int .i64 0] 33)).setRow w1.heap.size #[.int .i64 0, .int .i64 0]).heap.size := (Array.getElem?_eq_some_iff.1 hX1).1; generalize (w1.alloc (.cells #[.int .i64 0, .int .i64 0] 33)).setRow w1.heap.size #[.int .i64 0, .int .i64 0] = W1 at hX1 hY1 hz1 ⊢; have a0 := cell_of_row _ _ 0 _ _ _ hX1; have a1 := cell_of_row _ _ 1 _ _ _ hX1; simp only [List.getElem?_toArray, List.getElem?_cons_zero, List.getElem?_cons_succ] at a0 a1; replace c0 := (hY1.cell (p := ⟨_, _, none⟩) (cell_lt c0)).trans c0; replace c1 := (hY1.cell (p := ⟨_, _, none⟩) (cell_lt c1)).trans c1; replace c2 := (hY1.cell (p := ⟨_, _, none⟩) (cell_lt c2)).trans c2; replace HBK := Lib.hid ((hY1.block w.heap.size (Array.getElem?_eq_some_iff.1 HBK.out).1).trans HBK.out); replace hB := hB.trans (hY1.mono hB.size); have hcv2 := conv_blanks 65537 65537 S2 HS2.out HBK.out HAL.out; clear hX1 hY1 hz1)
        | (go_at_call 22; refine (h2 _ (HM.out.below hB hM0)).mono ?_; rintro e w2 ⟨⟨a, cb, rfl⟩, hB1⟩; replace a0 := (hB1.cell (p := ⟨_, _, none⟩) (cell_lt a0)).trans a0; replace a1 := (hB1.cell (p := ⟨_, _, none⟩) (cell_lt a1)).trans a1; replace c0 := (hB1.cell (p := ⟨_, _, none⟩) (cell_lt c0)).trans c0; replace c1 := (hB1.cell (p := ⟨_, _, none⟩) (cell_lt c1)).trans c1; replace c2 := (hB1.cell (p := ⟨_, _, none⟩) (cell_lt c2)).trans c2; replace hB := hB.trans (hB1.mono hB.size); clear hB1 hcv2)
        | (refine wpList_store_rowTo rfl 33 (.tmp 6) (.tmp 29) rfl rfl w2.heap.size #[.int .i64 2, .int .i64 0] rfl rfl 33 #[.int .i64 0, .int .i64 0] (heap_alloc_new w2 _) info33 rfl (by simp [Value.oneCell']) ?_; have hX1 := setRow_heap _ w2.heap.size _ #[.int .i64 2, .int .i64 0] _ _ (heap_alloc_new w2 (.cells #[.int .i64 0, .int .i64 0] 33)); have hY1 : Below w2.heap.size w2 _ := below_setRow ((Below.refl _ w2).alloc (Nat.le_refl _) (.cells #[.int .i64 0, .int .i64 0] 33)) (Nat.le_refl _) #[.int .i64 2, .int .i64 0]; have hz1 : w2.heap.size < ((w2.alloc (.cells #[.int .i64 0, .int .i64 0] 33)).setRow w2.heap.size #[.int .i64 2, .int .i64 0]).heap.size := (Array.getElem?_eq_some_iff.1 hX1).1; generalize (w2.alloc (.cells #[.int .i64 0, .int .i64 0] 33)).setRow w2.heap.size #[.int .i64 2, .int .i64 0] = W2 at hX1 hY1 hz1 ⊢; have b0 := cell_of_row _ _ 0 _ _ _ hX1; have b1 := cell_of_row _ _ 1 _ _ _ hX1; simp only [List.getElem?_toArray, List.getElem?_cons_zero, List.getElem?_cons_succ] at b0 b1; replace a0 := (hY1.cell (p := ⟨_, _, none⟩) (cell_lt a0)).trans a0; replace a1 := (hY1.cell (p := ⟨_, _, none⟩) (cell_lt a1)).trans a1; replace c0 := (hY1.cell (p := ⟨_, _, none⟩) (cell_lt c0)).trans c0; replace c1 := (hY1.cell (p := ⟨_, _, none⟩) (cell_lt c1)).trans c1; replace c2 := (hY1.cell (p := ⟨_, _, none⟩) (cell_lt c2)).trans c2; replace hB := hB.trans (hY1.mono hB.size); clear hX1 hY1 hz1)
        | (go_at_call 17; refine (fixed7_any _ (HM.out.below hB hM0)).mono ?_; rintro e w3 ⟨rfl, hB2⟩; replace hB := hB.trans (hB2.mono hB.size); clear hB2))
      go_ret
      exact ⟨rfl, hB⟩
end Go.Proofs.Ytbkmlldhjchhjaa
