/-
  Layer 7: contracts of scan.lineEnd, block and word.
-/
import Derived.Test.YtbkmlldhjchhjaaGreatSe
import Derived.Test.YtbkmlldhjchhjaaGreatShelf
namespace Go.Proofs.YtbkmlldhjchhjaaGreat
open Go.ChangeShapes Go.WideShapes Go.ChangeAt Go.RowKit

theorem tail_text (s : ByteArray) (a : Nat) (ha : a ≤ s.size) : (s.extract a s.size).data.toList = s.data.toList.drop a ∧ (s.extract a s.size).size = s.size - a := by
  refine ⟨?_, by rw [ByteArray.size_extract]; omega⟩
  have := extract_list s a s.size
  rw [ByteArray.toList_eq] at this
  rw [this, List.take_of_length_le (by simp)]
theorem tail_run (s : ByteArray) (a : Nat) (ha : a ≤ s.size) (w : World) : (Instr.slice 9 (.string s) (some (.int .i64 (a : Int))) none none).run Tryz.prog w = .ok (.string (s.extract a s.size)) w := by
  rw [run_slice_string_from_if _ 9 s .i64 _ Tryz.underlying9, if_pos (by omega)]; simp
theorem lineEnd_any (s : ByteArray) (hs : s.size ≤ 140737488351232) (a : Nat) (ha : a ≤ s.size) (w : World) :
    Calls Tryz.prog 50 #[.string s, .int .i64 a] w fun e w' => e = .returned (.int .i64 ((a + lineLen (s.data.toList.drop a) : Nat) : Int)) ∧ w' = w := by
  obtain ⟨hGl, hGs⟩ := tail_text s a ha
  have hsl := fun w => tail_run s a ha w
  obtain ⟨G, hG⟩ : ∃ G, G = s.extract a s.size := ⟨_, rfl⟩
  rw [← hG] at hGl hGs hsl
  have hix : ∀ w, Calls Tryz.prog 18 #[.string G, .int .u8 10] w fun e w' => e = .returned (.int .i64 (if lineLen (s.data.toList.drop a) = s.size - a then -1 else (lineLen (s.data.toList.drop a) : Int))) ∧ w' = w := fun w => by
    have h := Tryz.strings_IndexByte G 10 w
    rw [hGl, show ((10 : Int)).toNat.toUInt8 = 10 from rfl, line_index, List.length_drop, show s.data.toList.length = s.size by simp] at h
    exact h
  have hle := lineLen_le (s.data.toList.drop a)
  rw [List.length_drop, show s.data.toList.length = s.size by simp] at hle
  obtain ⟨n, hn⟩ : ∃ n, n = lineLen (s.data.toList.drop a) := ⟨_, rfl⟩
  rw [← hn] at hix hle ⊢
  clear hG hGl hn
  by_cases he : n = s.size - a
  · rw [if_pos he] at hix
    have hr := Lib.hid (show ((a + n : Nat) : Int) = (s.size : Int) by omega)
    clear he
    go_enter Tryz.func50, Tryz.ntmps50
    go_wp2_with (go_at_call 18; refine (hix _).mono ?_; rintro e w' ⟨rfl, hw⟩; rw [hw]; clear hw)
    go_ret
    exact ⟨ret_int hr.out.symm, rfl⟩
  · rw [if_neg he] at hix
    clear he
    go_enter Tryz.func50, Tryz.ntmps50
    go_wp2_with (go_at_call 18; refine (hix _).mono ?_; rintro e w' ⟨rfl, hw⟩; rw [hw]; clear hw)
    go_ret
    exact ⟨ret_int (by simp), rfl⟩
/-- some int lies in the cell of internal/bytealg.MaxLen -/
def Mx (w : World) : Prop := ∃ m : Int, w.cell? ⟨0, 0, none⟩ = some (.int .i64 m)
theorem Mx.below {w w' : World} {B : Nat} (h : Mx w) (hB : Below B w w') (h0 : 0 < B) : Mx w' := by
  obtain ⟨m, hm⟩ := h
  exact ⟨m, (hB.cell (p := ⟨0, 0, none⟩) h0).trans hm⟩
theorem Mx.lt {w : World} (h : Mx w) : 0 < w.heap.size := by
  obtain ⟨m, hm⟩ := h
  unfold World.cell? at hm
  rcases Nat.lt_or_ge 0 w.heap.size with h | h
  · exact h
  · rw [Array.getElem?_eq_none h] at hm; cases hm
/-- what block answers -/
def blockAns (a : Nat) (o : Option Nat) : Value :=
  match o with
  | some j => .tuple #[.int .u8 12, .int .i64 ((a : Int) + 2 + (j : Int) + 2)]
  | none => .tuple #[.int .u8 0, .int .i64 0]
theorem block_any (s : ByteArray) (hs : s.size ≤ 4294967280) (a : Nat) (ha : a + 2 ≤ s.size) (w : World) (hM : Mx w) :
    Calls Tryz.prog 51 #[.string s, .int .i64 a] w fun e w' => e = .returned (blockAns a (blockLen (s.data.toList.drop (a + 2)))) ∧ w' = w := by
  obtain ⟨A, hA⟩ : ∃ A, a + 2 = A := ⟨_, rfl⟩
  have eA : (a : Int) + 2 = (A : Int) := by omega
  have hAs : A ≤ s.size := by omega
  rw [hA]
  obtain ⟨hGl, hGs⟩ := tail_text s A hAs
  have hsl := fun w => tail_run s A hAs w
  obtain ⟨G, hG⟩ : ∃ G, G = s.extract A s.size := ⟨_, rfl⟩
  rw [← hG] at hGl hGs hsl
  obtain ⟨mx, hmx⟩ := hM
  have hix := Tryz.strings_Index G ⟨#[42, 47]⟩ mx w (by omega) hmx
  rw [hGl, show (⟨#[42, 47]⟩ : ByteArray).data.toList = [42, 47] from rfl, block_index] at hix
  cases ho : blockLen (s.data.toList.drop A) with
  | none =>
    rw [ho] at hix
    have hix' : Calls Tryz.prog 67 #[.string G, .string ⟨#[42, 47]⟩] w fun e w' => e = .returned (.int .i64 (-1)) ∧ w' = w := hix
    clear hix ho hG hGl hmx
    go_enter Tryz.func51, Tryz.ntmps51
    go_wp2_with (go_at_call 67; refine hix'.mono ?_; rintro e w' ⟨rfl, hw⟩; rw [hw]; clear hw)
    go_ret2
    exact ⟨rfl, rfl⟩
  | some j =>
    rw [ho] at hix
    have hix' : Calls Tryz.prog 67 #[.string G, .string ⟨#[42, 47]⟩] w fun e w' => e = .returned (.int .i64 (j : Int)) ∧ w' = w := hix
    have hj := blockLen_le _ j ho
    rw [List.length_drop, show s.data.toList.length = s.size by simp] at hj
    have HE := Lib.hid (show (a : Int) + 2 = (A : Int) from eA)
    clear hix ho hG hGl hmx
    go_enter Tryz.func51, Tryz.ntmps51
    go_wp2_with (go_at_call 67; refine hix'.mono ?_; rintro e w' ⟨rfl, hw⟩; rw [hw]; clear hw)
    go_ret2
    exact ⟨by show _ = Ending.returned (.tuple #[.int .u8 12, .int .i64 ((a : Int) + 2 + (j : Int) + 2)]); rw [HE.out]; rfl, rfl⟩
set_option maxHeartbeats 4000000 in
theorem word_f (s : ByteArray) (hs : s.size ≤ 140737488351232) (a : Nat) (ha : a ≤ s.size) (g0 : Nat) (hg0 : s.size ≤ a + g0) (hcl : cleanAt s.data.toList g0 a = -1) (w : World) :
    Calls Tryz.prog 53 #[.string s, .int .i64 a] w fun e w' => e = .returned (.tuple #[.int .u8 (if isWord ((s.data.toList.drop a).take (spanLen isPart (s.data.toList.drop a))) = true then 2 else 1), .int .i64 ((a + spanLen isPart (s.data.toList.drop a) : Nat) : Int)]) ∧ Below w.heap.size w w' := by
  have hl : s.data.toList.length = s.size := by simp
  have hb := fun w => behind_f 69 (.inr rfl) isPart tells_part s (by unfold maxLen; omega) a ha g0 hg0 hcl w
  rw [spanAt_len isPart _ _ _ (by omega)] at hb
  have hle := spanLen_le isPart (s.data.toList.drop a)
  rw [List.length_drop, hl] at hle
  obtain ⟨n, hn⟩ : ∃ n, n = spanLen isPart (s.data.toList.drop a) := ⟨_, rfl⟩
  rw [← hn] at hb hle ⊢
  obtain ⟨E, hE⟩ : ∃ E, E = a + n := ⟨_, rfl⟩
  rw [← hE] at hb ⊢
  have hsl := fun w => slice_run s a n (E : Int) (by omega) (by omega) w
  obtain ⟨X, hX⟩ : ∃ X, X = s.extract a (a + n) := ⟨_, rfl⟩
  rw [← hX] at hsl
  have hXl : X.data.toList = (s.data.toList.drop a).take n := by
    have := extract_list s a (a + n)
    rw [ByteArray.toList_eq] at this
    rw [hX, this, List.drop_take]; congr 1; omega
  have hw := fun w => word_any X w
  rw [hXl] at hw
  obtain ⟨b, hbb⟩ : ∃ b, b = isWord ((s.data.toList.drop a).take n) := ⟨_, rfl⟩
  rw [← hbb] at hw ⊢
  have hEs : E ≤ s.size := by omega
  have haE : a ≤ E := by omega
  clear hn hE hX hXl hbb hcl hle
  cases b with
  | true =>
    go_enter Tryz.func53, Tryz.ntmps53
    go_wp2_with (first
      | (go_at_call 48; refine (hb _).mono ?_; rintro e w1 ⟨rfl, hB⟩)
      | (go_at_call 71; refine (hw _).mono ?_; rintro e w2 ⟨rfl, hw2⟩; rw [← hw2]; clear hw2))
    go_ret2
    exact ⟨rfl, hB⟩
  | false =>
    go_enter Tryz.func53, Tryz.ntmps53
    go_wp2_with (first
      | (go_at_call 48; refine (hb _).mono ?_; rintro e w1 ⟨rfl, hB⟩)
      | (go_at_call 71; refine (hw _).mono ?_; rintro e w2 ⟨rfl, hw2⟩; rw [← hw2]; clear hw2))
    go_ret2
    exact ⟨rfl, hB⟩
end Go.Proofs.YtbkmlldhjchhjaaGreat
