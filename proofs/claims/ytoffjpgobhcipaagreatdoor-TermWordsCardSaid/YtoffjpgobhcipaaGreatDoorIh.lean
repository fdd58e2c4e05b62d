/-
  Layer 11: contract of the document's row.
-/
import Derived.Test.YtoffjpgobhcipaaGreatDoorIg
import Derived.OwnWalk
import Derived.Deep.Cut
import Derived.Laws.CopyOwn
namespace Go.Proofs.YtoffjpgobhcipaaGreatDoor.Trm
open Go.ChangeShapes Go.WideShapes Go.ChangeAt Go.RowKit

/-- the blocks that row lays -/
def rowObjs (w : World) : List Obj := (.cells #[.int .i64 0, .bool false, .bool false, .slice none 0 0] 52) :: (wordLists.map fun ws => (.cells (strCells ws).toArray 9)) ++ [.cells (rowCells (w.heap.size + 1)) 52]
theorem row_words (w : World) (j : Nat) (ws : List (List UInt8)) (h : wordLists[j]? = some ws) : Strs (allocs w (rowObjs w)) (w.heap.size + 1 + j) ws := by
  have hj := (List.getElem?_eq_some_iff.1 h).1
  have h1 : (rowObjs w)[1 + j]? = some (.cells (strCells ws).toArray 9) := by
    unfold rowObjs
    rw [List.cons_append, Nat.add_comm 1 j, List.getElem?_cons_succ, List.getElem?_append_left (by rw [List.length_map]; exact hj), List.getElem?_map, h]; rfl
  have h2 := allocs_at _ w _ _ _ h1
  intro k x hk
  rw [show w.heap.size + 1 + j = w.heap.size + (1 + j) by omega]
  rw [cell_of_row _ _ k _ 9 (0, 0) h2]
  simp [strCells, hk]
theorem row_at (w : World) : (allocs w (rowObjs w)).heap[w.heap.size + 14]? = some (.cells (rowCells (w.heap.size + 1)) 52 (0, 0)) := allocs_at _ w 14 _ _ rfl
theorem row_size (w : World) : (allocs w (rowObjs w)).heap.size = w.heap.size + 15 := allocs_size _ _
theorem row_first (w : World) : (allocs w (rowObjs w)).heap[w.heap.size]? = some (.cells #[.int .i64 0, .bool false, .bool false, .slice none 0 0] 52 (0, 0)) := allocs_at _ w 0 _ _ rfl
theorem row_facts (w W : World) (hW : W = allocs w (rowObjs w)) (k : Nat) (hk : k < 69) : ∃ m n ws v,
    W.cell? ⟨w.heap.size + 14, k * 4, none⟩ = some (.int .i64 (leastK k)) ∧ W.cell? ⟨w.heap.size + 14, k * 4 + 1, none⟩ = some (.bool m) ∧ W.cell? ⟨w.heap.size + 14, k * 4 + 2, none⟩ = some (.bool n) ∧ W.cell? ⟨w.heap.size + 14, k * 4 + 3, none⟩ = some v ∧
    mostK k = (if m then 9223372036854775807 else leastK k) ∧ (tabK[k]?.map fun x => (x.2.2.1, x.2.2.2)) = some (n, ws) ∧ WordsAt W v ws := by
  obtain ⟨h1, ⟨m, h2, hm⟩, n, ws, v, h3, h4, h5, h6⟩ := row_cells (w.heap.size + 1) k hk
  have hc := fun j => cell_of_row W (w.heap.size + 14) j _ 52 (0, 0) (by rw [hW]; exact row_at w)
  refine ⟨m, n, ws, v, (hc _).trans h1, (hc _).trans h2, (hc _).trans h3, (hc _).trans h4, hm, h5, ?_⟩
  rcases h6 with ⟨rfl, rfl⟩ | ⟨j, rfl, hj⟩
  · exact ⟨none, rfl, fun k x hk => by cases hk⟩
  · have hs := row_words w j ws hj
    rw [← hW] at hs
    exact ⟨_, rfl, fun k x hk => ⟨_, rfl, hs k x hk⟩⟩
/-- what row answers -/
def RowIs (k : Nat) (z : Int) (w' : World) (e : Ending) : Prop := ∃ m n ws v, e = .returned (.agg #[.int .i64 z, .bool m, .bool n, v]) ∧ (k < 69 → mostK k = (if m then 9223372036854775807 else leastK k) ∧ (tabK[k]?.map fun x => (x.2.2.1, x.2.2.2)) = some (n, ws)) ∧ WordsAt w' v ws
theorem info52s : (Tryz.prog.info? 52).map (·.size) = some 4 := by kernel_rfl
theorem wpList_buildSliceTo {P : Program} {ops : Array Oper} {rest : List Oper} {o : Oper} {a : Act} {w : World} {Q : Exit → Act → World → Prop} (hg : o.guard = none) (t e : TypeId) (len : Nat) (parts : Array (Nat × Operand)) (ho : o.op = .buildSlice t len parts)
    (cells : Array Value) (ie : TypeInfo) (z : Value) (N : Nat) (hN : w.heap.size = N) (W : World) (hW : w.alloc (.cells cells e) = W)
    (hu : P.underlying t = some (.slice e)) (hie : P.info? e = some ie) (hz : ie.zero = some z) (hsmall : ¬ len * ie.size > 2 ^ 24) (hpos : ¬ len * ie.size = 0)
    (hf : Instr.fill (fun i => some (i * ie.size, ie.size)) ((Array.range (len * ie.size)).map (z.cells[· % z.cells.size]!)) (parts.map fun (i, x) => (i, a.eval x)).toList = some cells)
    (h : wpList P ops Q rest (a.put o.dst (.slice (some ⟨N, 0, none⟩) len len)) W) : wpList P ops Q (o :: rest) a w := by
  subst hN hW
  exact wpList_buildSlice hg t e len parts ho cells ie z hu hie hz hsmall hpos hf h
set_option maxRecDepth 100000 in
set_option maxHeartbeats 40000000 in
theorem row_any (k : Nat) (hk255 : k ≤ 255) (w : World) :
    Calls Tryz.prog 33 #[.int .u8 k] w fun e w' => RowIs k (if k < 69 then leastK k else -1) w' e ∧ Below w.heap.size w w' := by
  obtain ⟨i0, hi, hz0, hz1, _⟩ := info_parts info52
  have hs1 : ¬ 69 * i0.size > 2 ^ 24 := by rw [hz1]; decide
  have hs2 : ¬ 69 * i0.size = 0 := by rw [hz1]; decide
  have HZ := Lib.hid hz1
  clear hz1
  obtain ⟨z, hz⟩ : ∃ z : Int, z = if k < 69 then leastK k else -1 := ⟨_, rfl⟩
  rw [← hz]
  have HZZ := Lib.hid hz
  clear hz
  obtain ⟨W, hW⟩ : ∃ W, W = allocs w (rowObjs w) := ⟨_, rfl⟩
  have HF := Lib.hid (row_facts w W hW k)
  have hB0 : Below w.heap.size w W := by rw [hW]; exact allocs_below _ _ _ _ (Below.refl _ _) (Nat.le_refl _)
  have hfirst := row_first w
  have hsz := row_size w
  rw [← hW] at hfirst hsz
  have HB := Lib.hid hB0
  have HFI := Lib.hid hfirst
  have HSZ := Lib.hid hsz
  have HW := Lib.hid hW
  clear hW hB0 hfirst hsz
  go_enter Tryz.func33, Tryz.ntmps33
  go_upto_region 2 with (refine wpList_buildSliceTo rfl 77 52 69 _ rfl (rowCells (w.heap.size + 1)) i0 _ (w.heap.size + 14) (by simp) W (show _ = _ from HW.out.symm) Tryz.underlying77 hi hz0 hs1 hs2 (by rw [HZ.out]; kernel_rfl) ?_)
  by_cases hk : k < 69
  · obtain ⟨m, n, ws, v, c0, c1, c2, c3, hm, htab, hwa⟩ := HF.out hk
    have HM := Lib.hid hm
    have HT := Lib.hid htab
    have hwa0 := hwa
    obtain ⟨va, rfl, _⟩ := hwa0
    have HWA := Lib.hid hwa
    clear hm htab hwa hi hz0 hs1 hs2 HF
    go_wp2_with (refine wpList_store_rowTo rfl 52 (.tmp 2) (.tmp 96) rfl rfl w.heap.size #[.int .i64 (leastK k), .bool m, .bool n, .slice va ws.length ws.length] rfl rfl 52 #[.int .i64 0, .bool false, .bool false, .slice none 0 0] HFI.out info52s rfl (by simp [Value.oneCell']) ?_)
    (try simp only [Exit.inBlock, Exit.then])
    have hB2 := below_setRow HB.out (Nat.le_refl _) #[.int .i64 (leastK k), .bool m, .bool n, .slice va ws.length ws.length]
    refine bodyPost_ret (v := .agg #[.int .i64 (leastK k), .bool m, .bool n, .slice va ws.length ws.length]) (results_cell_row rfl _ _ w.heap.size 52 _ (0, 0) _ rfl (setRow_heap _ _ _ _ _ _ HFI.out) Tryz.underlying52 rfl info52s) rfl ⟨⟨m, n, ws, .slice va ws.length ws.length, (by rw [HZZ.out, if_pos hk]), fun _ => ⟨HM.out, HT.out⟩, ?_⟩, hB2⟩
    obtain ⟨a, e1, e2⟩ := HWA.out
    refine ⟨a, e1, fun j x hj => ?_⟩
    obtain ⟨b, eb, cb⟩ := e2 j x hj
    refine ⟨b, eb, ?_⟩
    have hne : b ≠ w.heap.size := by
      intro e
      rw [e, cell_of_row _ _ j _ 52 (0, 0) HFI.out] at cb
      match j, cb with
      | 0, cb => cases cb
      | 1, cb => cases cb
      | 2, cb => cases cb
      | 3, cb => cases cb
      | j + 4, cb => simp at cb
    have hh : (W.setRow w.heap.size #[.int .i64 (leastK k), .bool m, .bool n, .slice va ws.length ws.length]).heap[b]? = W.heap[b]? := setRow_other _ _ _ _ hne
    unfold World.cell? at cb ⊢
    simp only at cb ⊢
    rw [hh]
    exact cb
  · have hk2 : ¬ (k : Int) < 69 := by omega
    have hk3 : (k : Int) ≤ 255 := by omega
    clear hi hz0 hs1 hs2 HF
    go_wp2_with (first
      | (refine wpList_buildTo rfl 52 _ rfl (some 92) rfl #[.int .i64 (-1), .bool false, .bool false, .slice none 0 0] (by kernel_rfl) ?_)
      | (refine wpList_store_rowTo rfl 52 (.tmp 2) (.tmp 92) rfl rfl w.heap.size #[.int .i64 (-1), .bool false, .bool false, .slice none 0 0] rfl rfl 52 #[.int .i64 0, .bool false, .bool false, .slice none 0 0] HFI.out info52s rfl (by simp [Value.oneCell']) ?_))
    (try simp only [Exit.inBlock, Exit.then])
    have hB2 := below_setRow HB.out (Nat.le_refl _) #[.int .i64 (-1), .bool false, .bool false, .slice none 0 0]
    refine bodyPost_ret (v := .agg #[.int .i64 (-1), .bool false, .bool false, .slice none 0 0]) (results_cell_row rfl _ _ w.heap.size 52 _ (0, 0) _ rfl (setRow_heap _ _ _ _ _ _ HFI.out) Tryz.underlying52 rfl info52s) rfl ⟨⟨false, false, [], .slice none 0 0, (by rw [HZZ.out, if_neg hk]), (fun h => absurd h hk), ⟨none, rfl, (fun j x hj => by cases hj)⟩⟩, hB2⟩
end Go.Proofs.YtoffjpgobhcipaaGreatDoor.Trm
