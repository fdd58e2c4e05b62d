/-
  Layer 11: contracts of the document's among and row.
-/
import Derived.Test.YtoffjpgobhcipaaGreatDoorId
import Derived.Test.YtoffjpgobhcipaaGreatDoorCb
import Derived.Great.BuildSlice
namespace Go.Proofs.YtoffjpgobhcipaaGreatDoor.Trm
open Go.ChangeShapes Go.WideShapes Go.ChangeAt Go.RowKit

/-- a slice that reads as these words -/
def WordsAt (w : World) (v : Value) (ws : List (List UInt8)) : Prop := ∃ a, v = .slice a ws.length ws.length ∧ ∀ k x, ws[k]? = some x → ∃ b, a = some ⟨b, 0, none⟩ ∧ w.cell? ⟨b, k, none⟩ = some (.string ⟨x.toArray⟩)
theorem wordsAt_below {w w' : World} {v : Value} {ws : List (List UInt8)} (h : WordsAt w v ws) (hB : Below w.heap.size w w') : WordsAt w' v ws := by
  obtain ⟨a, h1, h2⟩ := h
  refine ⟨a, h1, fun k x hk => ?_⟩
  obtain ⟨b, e, c⟩ := h2 k x hk
  exact ⟨b, e, (hB.cell (p := ⟨b, k, none⟩) (cell_lt c)).trans c⟩
set_option maxHeartbeats 4000000 in
theorem among_any (s : ByteArray) (w : World) (v : Value) (ws : List (List UInt8)) (h : WordsAt w v ws) (hn : ws.length ≤ 1000) :
    Calls Tryz.prog 58 #[.string s, v] w fun e w' => e = .returned (.bool (ws.any fun x => s.toList == x)) ∧ w = w' := by
  obtain ⟨a, rfl, hS⟩ := h
  obtain ⟨n, hnn⟩ : ∃ n, n = ws.length := ⟨_, rfl⟩
  rw [← hnn] at hn ⊢
  have HN := Lib.hid hnn
  have HS := Lib.hid hS
  clear hnn hS
  go_enter Tryz.func58, Tryz.ntmps58
  go_wp2
  go_loop [5] (fun t => ∃ k : Nat, k ≤ n ∧ t = .int .i64 k ∧ Hid ((ws.take k).any (fun x => s.toList == x) = false)) (fun t => n - (intOf t).toNat)
  case atStart => exact ⟨0, Nat.zero_le _, rfl, Lib.hid (by simp)⟩
  case round =>
    obtain ⟨k, hk, rfl, HT⟩ := hrel
    by_cases hlt : k < n
    · obtain ⟨x, hx⟩ : ∃ x, ws[k]? = some x := ⟨_, List.getElem?_eq_getElem (by have := HN.out; omega)⟩
      obtain ⟨b, rfl, c⟩ := HS.out k x hx
      have HX := Lib.hid hx
      have e1 : (x == s.toList) = (s.toList == x) := by
        rw [Bool.eq_iff_iff, beq_iff_eq, beq_iff_eq]; exact eq_comm
      clear hx
      cases hq : (s.toList == x) with
      | true =>
        rw [hq] at e1
        have HR : Hid (ws.any (fun x => s.toList == x) = true) := Lib.hid (List.any_eq_true.2 ⟨x, List.mem_of_getElem? HX.out, hq⟩)
        clear hq
        go_wp2
        go_ret
        exact ⟨ret_bool HR.out.symm, rfl⟩
      | false =>
        rw [hq] at e1
        have HR : Hid ((ws.take (k + 1)).any (fun x => s.toList == x) = false) := Lib.hid (by
          rw [List.take_add_one, HX.out, List.any_append, HT.out]; simpa using hq)
        clear hq
        go_wp2
        go_round
        case rel => exact ⟨k + 1, by omega, by go_num, HR⟩
        case measure => simp [intOf]; omega
    · obtain rfl : k = n := by omega
      have HR : Hid (ws.any (fun x => s.toList == x) = false) := Lib.hid (by have := HT.out; rwa [HN.out, List.take_length] at this)
      go_wp2
      go_ret
      exact ⟨ret_bool HR.out.symm, rfl⟩
/-- the cells of the document's rows, whose words stand in blocks from b on -/
def rowCells (b : Nat) : Array Value := #[.int .i64 0, .bool false, .bool true, .slice none 0 0, .int .i64 3, .bool false, .bool true, .slice none 0 0, .int .i64 0, .bool true, .bool true, .slice none 0 0, .int .i64 1, .bool false, .bool false, .slice (some ⟨b, 0, none⟩) 4 4, .int .i64 0, .bool true, .bool false, .slice (some ⟨b + 1, 0, none⟩) 4 4, .int .i64 2, .bool false, .bool true, .slice (some ⟨b + 2, 0, none⟩) 1 1, .int .i64 3, .bool false, .bool true, .slice none 0 0, .int .i64 3, .bool false, .bool true, .slice (some ⟨b + 3, 0, none⟩) 1 1, .int .i64 5, .bool false, .bool true, .slice none 0 0, .int .i64 2, .bool false, .bool true, .slice none 0 0, .int .i64 1, .bool true, .bool true, .slice none 0 0, .int .i64 0, .bool true, .bool true, .slice none 0 0, .int .i64 0, .bool true, .bool true, .slice none 0 0, .int .i64 0, .bool true, .bool true, .slice none 0 0, .int .i64 0, .bool true, .bool true, .slice none 0 0, .int .i64 2, .bool false, .bool true, .slice (some ⟨b + 4, 0, none⟩) 1 1, .int .i64 1, .bool true, .bool true, .slice none 0 0, .int .i64 2, .bool false, .bool true, .slice none 0 0, .int .i64 1, .bool true, .bool true, .slice none 0 0, .int .i64 1, .bool false, .bool true, .slice none 0 0, .int .i64 0, .bool true, .bool true, .slice none 0 0, .int .i64 3, .bool false, .bool true, .slice none 0 0, .int .i64 2, .bool false, .bool true, .slice none 0 0, .int .i64 0, .bool true, .bool true, .slice none 0 0, .int .i64 2, .bool false, .bool true, .slice none 0 0, .int .i64 0, .bool true, .bool true, .slice none 0 0, .int .i64 0, .bool false, .bool false, .slice none 0 0, .int .i64 0, .bool false, .bool false, .slice none 0 0, .int .i64 1, .bool false, .bool true, .slice none 0 0, .int .i64 2, .bool false, .bool true, .slice none 0 0, .int .i64 2, .bool false, .bool true, .slice none 0 0, .int .i64 4, .bool false, .bool true, .slice none 0 0, .int .i64 2, .bool false, .bool true, .slice none 0 0, .int .i64 1, .bool false, .bool true, .slice none 0 0, .int .i64 2, .bool false, .bool true, .slice (some ⟨b + 5, 0, none⟩) 1 1, .int .i64 1, .bool false, .bool true, .slice none 0 0, .int .i64 1, .bool false, .bool false, .slice (some ⟨b + 6, 0, none⟩) 6 6, .int .i64 2, .bool false, .bool false, .slice (some ⟨b + 7, 0, none⟩) 19 19, .int .i64 2, .bool false, .bool true, .slice none 0 0, .int .i64 2, .bool false, .bool true, .slice none 0 0, .int .i64 2, .bool false, .bool true, .slice none 0 0, .int .i64 2, .bool false, .bool true, .slice none 0 0, .int .i64 1, .bool false, .bool true, .slice none 0 0, .int .i64 1, .bool false, .bool true, .slice none 0 0, .int .i64 2, .bool false, .bool true, .slice none 0 0, .int .i64 1, .bool false, .bool false, .slice (some ⟨b + 8, 0, none⟩) 3 3, .int .i64 1, .bool false, .bool true, .slice none 0 0, .int .i64 1, .bool false, .bool true, .slice none 0 0, .int .i64 1, .bool false, .bool true, .slice none 0 0, .int .i64 0, .bool false, .bool true, .slice none 0 0, .int .i64 1, .bool false, .bool true, .slice none 0 0, .int .i64 2, .bool false, .bool true, .slice none 0 0, .int .i64 1, .bool false, .bool false, .slice (some ⟨b + 9, 0, none⟩) 2 2, .int .i64 2, .bool false, .bool false, .slice (some ⟨b + 10, 0, none⟩) 13 13, .int .i64 1, .bool false, .bool true, .slice none 0 0, .int .i64 1, .bool false, .bool true, .slice none 0 0, .int .i64 1, .bool false, .bool true, .slice none 0 0, .int .i64 1, .bool false, .bool false, .slice (some ⟨b + 11, 0, none⟩) 4 4, .int .i64 1, .bool false, .bool true, .slice none 0 0, .int .i64 4, .bool false, .bool true, .slice none 0 0, .int .i64 3, .bool false, .bool true, .slice none 0 0, .int .i64 4, .bool false, .bool true, .slice none 0 0, .int .i64 2, .bool false, .bool true, .slice none 0 0, .int .i64 1, .bool false, .bool true, .slice none 0 0, .int .i64 2, .bool false, .bool true, .slice none 0 0, .int .i64 4, .bool false, .bool true, .slice none 0 0, .int .i64 3, .bool false, .bool true, .slice (some ⟨b + 12, 0, none⟩) 2 2, .int .i64 2, .bool false, .bool true, .slice none 0 0, .int .i64 1, .bool false, .bool true, .slice none 0 0]
def wordLists : List (List (List UInt8)) := [[[105, 109, 112, 111, 114, 116], [99, 111, 110, 115, 116], [118, 97, 114], [116, 121, 112, 101]],
  [[105, 109, 112, 111, 114, 116], [99, 111, 110, 115, 116], [118, 97, 114], [116, 121, 112, 101]],
  [[46]],
  [[61]],
  [[46, 46, 46]],
  [[46, 46, 46]],
  [[43], [45], [33], [94], [38], [60, 45]],
  [[124, 124], [38, 38], [61, 61], [33, 61], [60], [60, 61], [62], [62, 61], [43], [45], [124], [94], [42], [47], [37], [60, 60], [62, 62], [38], [38, 94]],
  [[99, 104, 97, 110], [99, 104, 97, 110, 60, 45], [60, 45, 99, 104, 97, 110]],
  [[43, 43], [45, 45]],
  [[61], [58, 61], [43, 61], [45, 61], [42, 61], [47, 61], [37, 61], [38, 61], [124, 61], [94, 61], [60, 60, 61], [62, 62, 61], [38, 94, 61]],
  [[98, 114, 101, 97, 107], [99, 111, 110, 116, 105, 110, 117, 101], [103, 111, 116, 111], [102, 97, 108, 108, 116, 104, 114, 111, 117, 103, 104]],
  [[61], [58, 61]]]
theorem info52 : (Tryz.prog.info? 52).map (fun i => (i.zero, i.size, i.bytes)) = some (some (.agg #[.int .i64 0, .bool false, .bool false, .slice none 0 0]), 4, 40) := by kernel_rfl
theorem info9s : (Tryz.prog.info? 9).map (fun i => (i.zero, i.size, i.bytes)) = some (some (.string ⟨#[]⟩), 1, 16) := by kernel_rfl
/-- words of a kind, as the row's cells have them -/
def rowV (b k : Nat) : Value := (rowCells b)[k * 4 + 3]?.getD undef
theorem row_cells (b : Nat) : ∀ k, k < 69 → (rowCells b)[k * 4]? = some (.int .i64 (leastK k)) ∧ (∃ m, (rowCells b)[k * 4 + 1]? = some (.bool m) ∧ mostK k = if m then 9223372036854775807 else leastK k) ∧ (∃ n ws v, (rowCells b)[k * 4 + 2]? = some (.bool n) ∧ (rowCells b)[k * 4 + 3]? = some v ∧ (tabK[k]?.map fun x => (x.2.2.1, x.2.2.2)) = some (n, ws) ∧ ((v = .slice none 0 0 ∧ ws = []) ∨ ∃ j, v = .slice (some ⟨b + j, 0, none⟩) ws.length ws.length ∧ wordLists[j]? = some ws)) := by
  intro k hk
  match k, hk with
  | 0, _ => exact ⟨rfl, ⟨_, rfl, rfl⟩, _, _, _, rfl, rfl, rfl, .inl ⟨rfl, rfl⟩⟩
  | 1, _ => exact ⟨rfl, ⟨_, rfl, rfl⟩, _, _, _, rfl, rfl, rfl, .inl ⟨rfl, rfl⟩⟩
  | 2, _ => exact ⟨rfl, ⟨_, rfl, rfl⟩, _, _, _, rfl, rfl, rfl, .inl ⟨rfl, rfl⟩⟩
  | 3, _ => exact ⟨rfl, ⟨_, rfl, rfl⟩, _, _, _, rfl, rfl, rfl, .inr ⟨0, rfl, rfl⟩⟩
  | 4, _ => exact ⟨rfl, ⟨_, rfl, rfl⟩, _, _, _, rfl, rfl, rfl, .inr ⟨1, rfl, rfl⟩⟩
  | 5, _ => exact ⟨rfl, ⟨_, rfl, rfl⟩, _, _, _, rfl, rfl, rfl, .inr ⟨2, rfl, rfl⟩⟩
  | 6, _ => exact ⟨rfl, ⟨_, rfl, rfl⟩, _, _, _, rfl, rfl, rfl, .inl ⟨rfl, rfl⟩⟩
  | 7, _ => exact ⟨rfl, ⟨_, rfl, rfl⟩, _, _, _, rfl, rfl, rfl, .inr ⟨3, rfl, rfl⟩⟩
  | 8, _ => exact ⟨rfl, ⟨_, rfl, rfl⟩, _, _, _, rfl, rfl, rfl, .inl ⟨rfl, rfl⟩⟩
  | 9, _ => exact ⟨rfl, ⟨_, rfl, rfl⟩, _, _, _, rfl, rfl, rfl, .inl ⟨rfl, rfl⟩⟩
  | 10, _ => exact ⟨rfl, ⟨_, rfl, rfl⟩, _, _, _, rfl, rfl, rfl, .inl ⟨rfl, rfl⟩⟩
  | 11, _ => exact ⟨rfl, ⟨_, rfl, rfl⟩, _, _, _, rfl, rfl, rfl, .inl ⟨rfl, rfl⟩⟩
  | 12, _ => exact ⟨rfl, ⟨_, rfl, rfl⟩, _, _, _, rfl, rfl, rfl, .inl ⟨rfl, rfl⟩⟩
  | 13, _ => exact ⟨rfl, ⟨_, rfl, rfl⟩, _, _, _, rfl, rfl, rfl, .inl ⟨rfl, rfl⟩⟩
  | 14, _ => exact ⟨rfl, ⟨_, rfl, rfl⟩, _, _, _, rfl, rfl, rfl, .inl ⟨rfl, rfl⟩⟩
  | 15, _ => exact ⟨rfl, ⟨_, rfl, rfl⟩, _, _, _, rfl, rfl, rfl, .inr ⟨4, rfl, rfl⟩⟩
  | 16, _ => exact ⟨rfl, ⟨_, rfl, rfl⟩, _, _, _, rfl, rfl, rfl, .inl ⟨rfl, rfl⟩⟩
  | 17, _ => exact ⟨rfl, ⟨_, rfl, rfl⟩, _, _, _, rfl, rfl, rfl, .inl ⟨rfl, rfl⟩⟩
  | 18, _ => exact ⟨rfl, ⟨_, rfl, rfl⟩, _, _, _, rfl, rfl, rfl, .inl ⟨rfl, rfl⟩⟩
  | 19, _ => exact ⟨rfl, ⟨_, rfl, rfl⟩, _, _, _, rfl, rfl, rfl, .inl ⟨rfl, rfl⟩⟩
  | 20, _ => exact ⟨rfl, ⟨_, rfl, rfl⟩, _, _, _, rfl, rfl, rfl, .inl ⟨rfl, rfl⟩⟩
  | 21, _ => exact ⟨rfl, ⟨_, rfl, rfl⟩, _, _, _, rfl, rfl, rfl, .inl ⟨rfl, rfl⟩⟩
  | 22, _ => exact ⟨rfl, ⟨_, rfl, rfl⟩, _, _, _, rfl, rfl, rfl, .inl ⟨rfl, rfl⟩⟩
  | 23, _ => exact ⟨rfl, ⟨_, rfl, rfl⟩, _, _, _, rfl, rfl, rfl, .inl ⟨rfl, rfl⟩⟩
  | 24, _ => exact ⟨rfl, ⟨_, rfl, rfl⟩, _, _, _, rfl, rfl, rfl, .inl ⟨rfl, rfl⟩⟩
  | 25, _ => exact ⟨rfl, ⟨_, rfl, rfl⟩, _, _, _, rfl, rfl, rfl, .inl ⟨rfl, rfl⟩⟩
  | 26, _ => exact ⟨rfl, ⟨_, rfl, rfl⟩, _, _, _, rfl, rfl, rfl, .inl ⟨rfl, rfl⟩⟩
  | 27, _ => exact ⟨rfl, ⟨_, rfl, rfl⟩, _, _, _, rfl, rfl, rfl, .inl ⟨rfl, rfl⟩⟩
  | 28, _ => exact ⟨rfl, ⟨_, rfl, rfl⟩, _, _, _, rfl, rfl, rfl, .inl ⟨rfl, rfl⟩⟩
  | 29, _ => exact ⟨rfl, ⟨_, rfl, rfl⟩, _, _, _, rfl, rfl, rfl, .inl ⟨rfl, rfl⟩⟩
  | 30, _ => exact ⟨rfl, ⟨_, rfl, rfl⟩, _, _, _, rfl, rfl, rfl, .inl ⟨rfl, rfl⟩⟩
  | 31, _ => exact ⟨rfl, ⟨_, rfl, rfl⟩, _, _, _, rfl, rfl, rfl, .inl ⟨rfl, rfl⟩⟩
  | 32, _ => exact ⟨rfl, ⟨_, rfl, rfl⟩, _, _, _, rfl, rfl, rfl, .inl ⟨rfl, rfl⟩⟩
  | 33, _ => exact ⟨rfl, ⟨_, rfl, rfl⟩, _, _, _, rfl, rfl, rfl, .inl ⟨rfl, rfl⟩⟩
  | 34, _ => exact ⟨rfl, ⟨_, rfl, rfl⟩, _, _, _, rfl, rfl, rfl, .inr ⟨5, rfl, rfl⟩⟩
  | 35, _ => exact ⟨rfl, ⟨_, rfl, rfl⟩, _, _, _, rfl, rfl, rfl, .inl ⟨rfl, rfl⟩⟩
  | 36, _ => exact ⟨rfl, ⟨_, rfl, rfl⟩, _, _, _, rfl, rfl, rfl, .inr ⟨6, rfl, rfl⟩⟩
  | 37, _ => exact ⟨rfl, ⟨_, rfl, rfl⟩, _, _, _, rfl, rfl, rfl, .inr ⟨7, rfl, rfl⟩⟩
  | 38, _ => exact ⟨rfl, ⟨_, rfl, rfl⟩, _, _, _, rfl, rfl, rfl, .inl ⟨rfl, rfl⟩⟩
  | 39, _ => exact ⟨rfl, ⟨_, rfl, rfl⟩, _, _, _, rfl, rfl, rfl, .inl ⟨rfl, rfl⟩⟩
  | 40, _ => exact ⟨rfl, ⟨_, rfl, rfl⟩, _, _, _, rfl, rfl, rfl, .inl ⟨rfl, rfl⟩⟩
  | 41, _ => exact ⟨rfl, ⟨_, rfl, rfl⟩, _, _, _, rfl, rfl, rfl, .inl ⟨rfl, rfl⟩⟩
  | 42, _ => exact ⟨rfl, ⟨_, rfl, rfl⟩, _, _, _, rfl, rfl, rfl, .inl ⟨rfl, rfl⟩⟩
  | 43, _ => exact ⟨rfl, ⟨_, rfl, rfl⟩, _, _, _, rfl, rfl, rfl, .inl ⟨rfl, rfl⟩⟩
  | 44, _ => exact ⟨rfl, ⟨_, rfl, rfl⟩, _, _, _, rfl, rfl, rfl, .inl ⟨rfl, rfl⟩⟩
  | 45, _ => exact ⟨rfl, ⟨_, rfl, rfl⟩, _, _, _, rfl, rfl, rfl, .inr ⟨8, rfl, rfl⟩⟩
  | 46, _ => exact ⟨rfl, ⟨_, rfl, rfl⟩, _, _, _, rfl, rfl, rfl, .inl ⟨rfl, rfl⟩⟩
  | 47, _ => exact ⟨rfl, ⟨_, rfl, rfl⟩, _, _, _, rfl, rfl, rfl, .inl ⟨rfl, rfl⟩⟩
  | 48, _ => exact ⟨rfl, ⟨_, rfl, rfl⟩, _, _, _, rfl, rfl, rfl, .inl ⟨rfl, rfl⟩⟩
  | 49, _ => exact ⟨rfl, ⟨_, rfl, rfl⟩, _, _, _, rfl, rfl, rfl, .inl ⟨rfl, rfl⟩⟩
  | 50, _ => exact ⟨rfl, ⟨_, rfl, rfl⟩, _, _, _, rfl, rfl, rfl, .inl ⟨rfl, rfl⟩⟩
  | 51, _ => exact ⟨rfl, ⟨_, rfl, rfl⟩, _, _, _, rfl, rfl, rfl, .inl ⟨rfl, rfl⟩⟩
  | 52, _ => exact ⟨rfl, ⟨_, rfl, rfl⟩, _, _, _, rfl, rfl, rfl, .inr ⟨9, rfl, rfl⟩⟩
  | 53, _ => exact ⟨rfl, ⟨_, rfl, rfl⟩, _, _, _, rfl, rfl, rfl, .inr ⟨10, rfl, rfl⟩⟩
  | 54, _ => exact ⟨rfl, ⟨_, rfl, rfl⟩, _, _, _, rfl, rfl, rfl, .inl ⟨rfl, rfl⟩⟩
  | 55, _ => exact ⟨rfl, ⟨_, rfl, rfl⟩, _, _, _, rfl, rfl, rfl, .inl ⟨rfl, rfl⟩⟩
  | 56, _ => exact ⟨rfl, ⟨_, rfl, rfl⟩, _, _, _, rfl, rfl, rfl, .inl ⟨rfl, rfl⟩⟩
  | 57, _ => exact ⟨rfl, ⟨_, rfl, rfl⟩, _, _, _, rfl, rfl, rfl, .inr ⟨11, rfl, rfl⟩⟩
  | 58, _ => exact ⟨rfl, ⟨_, rfl, rfl⟩, _, _, _, rfl, rfl, rfl, .inl ⟨rfl, rfl⟩⟩
  | 59, _ => exact ⟨rfl, ⟨_, rfl, rfl⟩, _, _, _, rfl, rfl, rfl, .inl ⟨rfl, rfl⟩⟩
  | 60, _ => exact ⟨rfl, ⟨_, rfl, rfl⟩, _, _, _, rfl, rfl, rfl, .inl ⟨rfl, rfl⟩⟩
  | 61, _ => exact ⟨rfl, ⟨_, rfl, rfl⟩, _, _, _, rfl, rfl, rfl, .inl ⟨rfl, rfl⟩⟩
  | 62, _ => exact ⟨rfl, ⟨_, rfl, rfl⟩, _, _, _, rfl, rfl, rfl, .inl ⟨rfl, rfl⟩⟩
  | 63, _ => exact ⟨rfl, ⟨_, rfl, rfl⟩, _, _, _, rfl, rfl, rfl, .inl ⟨rfl, rfl⟩⟩
  | 64, _ => exact ⟨rfl, ⟨_, rfl, rfl⟩, _, _, _, rfl, rfl, rfl, .inl ⟨rfl, rfl⟩⟩
  | 65, _ => exact ⟨rfl, ⟨_, rfl, rfl⟩, _, _, _, rfl, rfl, rfl, .inl ⟨rfl, rfl⟩⟩
  | 66, _ => exact ⟨rfl, ⟨_, rfl, rfl⟩, _, _, _, rfl, rfl, rfl, .inr ⟨12, rfl, rfl⟩⟩
  | 67, _ => exact ⟨rfl, ⟨_, rfl, rfl⟩, _, _, _, rfl, rfl, rfl, .inl ⟨rfl, rfl⟩⟩
  | 68, _ => exact ⟨rfl, ⟨_, rfl, rfl⟩, _, _, _, rfl, rfl, rfl, .inl ⟨rfl, rfl⟩⟩
  | k + 69, h => exact absurd h (by omega)
/-- blocks laid one behind the other -/
def allocs : World → List Obj → World
  | w, [] => w
  | w, o :: os => allocs (w.alloc o) os
theorem allocs_below (B : Nat) : ∀ (os : List Obj) (w w' : World), Below B w w' → B ≤ w'.heap.size → Below B w (allocs w' os)
  | [], _, _, h, _ => h
  | o :: os, w, w', h, hs => allocs_below B os w (w'.alloc o) (h.alloc hs o) (by simp; omega)
theorem allocs_old : ∀ (os : List Obj) (w : World) (b : Nat), b < w.heap.size → (allocs w os).heap[b]? = w.heap[b]?
  | [], _, _, _ => rfl
  | o :: os, w, b, h => by
    rw [allocs, allocs_old os _ b (by simp; omega)]
    show (w.heap.push _)[b]? = _
    rw [Array.getElem?_push, if_neg (by omega)]
theorem allocs_at : ∀ (os : List Obj) (w : World) (j : Nat) (c : Array Value) (t : TypeId), os[j]? = some (.cells c t) → (allocs w os).heap[w.heap.size + j]? = some (.cells c t (0, 0))
  | [], _, _, _, _, h => by cases h
  | o :: os, w, 0, c, t, h => by
    injection h with h
    subst h
    rw [allocs, allocs_old _ _ _ (by simp)]
    exact heap_alloc_new w _
  | o :: os, w, j + 1, c, t, h => by
    have := allocs_at os (w.alloc o) j c t h
    rw [allocs]
    rw [show w.heap.size + (j + 1) = (w.alloc o).heap.size + j by simp; omega]
    exact this
theorem allocs_size : ∀ (os : List Obj) (w : World), (allocs w os).heap.size = w.heap.size + os.length
  | [], _ => rfl
  | o :: os, w => by rw [allocs, allocs_size]; simp; omega

end Go.Proofs.YtoffjpgobhcipaaGreatDoor.Trm
