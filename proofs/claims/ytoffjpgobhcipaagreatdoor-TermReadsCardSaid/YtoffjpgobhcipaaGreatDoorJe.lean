/-
  Layer 11: contract of the document's Read.
-/
import Derived.Test.YtoffjpgobhcipaaGreatDoorJc
import Derived.Test.YtoffjpgobhcipaaGreatDoorKb
namespace Go.Proofs.YtoffjpgobhcipaaGreatDoor.Trm
open Go.ChangeShapes Go.WideShapes Go.ChangeAt Go.RowKit

set_option maxRecDepth 100000 in
set_option maxHeartbeats 4000000 in
theorem rRead_any (s : ByteArray) (hs : s.size ≤ 140737488351232) (w : World) :
    Calls Tryz.prog 25 #[.string s] w fun e w' => ReadIs w.heap.size s.data.toList e w' ∧ Below w.heap.size w w' := by
  have hl : s.data.toList.length = s.size := by simp
  by_cases hlong : 1048576 < s.size
  · have HR : Hid (∀ w', ReadIs w.heap.size s.data.toList (.returned (.tuple #[.slice none 0 0, .int .i64 2])) w') := Lib.hid (fun w' => ⟨_, 2, [], rfl, mineP_nil _ _, fun _ => ⟨rfl, rfl⟩, fun h => by rw [hl] at h; omega⟩)
    have d1 : decide ((1048576 : Int) < s.size) = true := decide_eq_true (by omega)
    clear hl
    go_enter Tryz.func25, Tryz.ntmps25
    go_wp2
    go_ret2
    exact ⟨HR.out _, Below.refl _ _⟩
  have hrd := fun w => rread_ok s (by omega) s.size 0 (Nat.zero_le _) (by omega) w
  have HNO : Hid (readP s.data.toList = none → ∀ w', ReadIs w.heap.size s.data.toList (.returned (.tuple #[.slice none 0 0, .int .i64 9])) w') := Lib.hid (fun hq w' => ⟨_, 9, [], rfl, mineP_nil _ _, fun h => by rw [hl] at h; omega, fun _ => ⟨fun _ => ⟨rfl, rfl⟩, fun L hL => by rw [hq] at hL; cases hL⟩⟩)
  have d1 : decide ((1048576 : Int) < s.size) = false := decide_eq_false (by omega)
  cases ht : treeQ s.data.toList with
  | none =>
    have HR := Lib.hid (HNO.out (by unfold readP; rw [ht]; rfl))
    have HC : Hid (∀ w', Calls Tryz.prog 48 #[.string s, .int .i64 0] w' fun e w'' => (∃ (a : Option Addr) (c : Nat), e = .returned (.tuple #[.slice a 0 c, .int .i64 0])) ∧ Below w'.heap.size w' w'') := Lib.hid (fun w' => (hrd w').mono (by
      rintro e w'' ⟨⟨v, z, l, rfl, hM, h1, _⟩, hB⟩
      obtain ⟨rfl, rfl⟩ := h1 ht
      obtain ⟨a, c, rfl, _, _, _⟩ := mineP_parts hM
      exact ⟨⟨a, c, rfl⟩, hB⟩))
    clear hl hrd ht
    go_enter Tryz.func25, Tryz.ntmps25
    go_wp2_with (go_at_call 48; refine (HC.out _).mono ?_; rintro e w2 ⟨⟨a2, c2, rfl⟩, hB2⟩)
    go_ret2
    exact ⟨HR.out _, hB2⟩
  | some y =>
    obtain ⟨L, r⟩ := y
    obtain ⟨hn1, hn2, hn3⟩ := tree_nodes ht
    rw [hl] at hn1
    have hLp := List.length_pos_iff.2 hn2
    have HC : Hid (∀ w', Calls Tryz.prog 48 #[.string s, .int .i64 0] w' fun e w'' => (∃ (a : Option Addr) (c : Nat), e = .returned (.tuple #[.slice a L.length c, .int .i64 ((s.size - r.length : Nat) : Int)]) ∧ MineP w'' w'.heap.size (.slice a L.length c) L) ∧ Below w'.heap.size w' w'') := Lib.hid (fun w' => (hrd w').mono (by
      rintro e w'' ⟨⟨v, z, l, rfl, hM, _, h1⟩, hB⟩
      obtain ⟨rfl, rfl⟩ := h1 L r ht
      obtain ⟨a, c, rfl, _, _, _⟩ := mineP_parts hM
      rw [hl]
      exact ⟨⟨a, c, rfl, hM⟩, hB⟩))
    have dl : ((L.length : Int) == 0) = false := by simp; exact hn2
    by_cases hr : r = []
    · have hp : readP s.data.toList = some L := by unfold readP; rw [ht, Option.bind_some, if_pos hr]
      have dz : (((s.size - r.length : Nat) : Int) != (s.size : Int)) = false := by rw [hr]; simp
      have HR : Hid (∀ w' a c, MineP w' w.heap.size (.slice a L.length c) L → ReadIs w.heap.size s.data.toList (.returned (.tuple #[.slice a L.length c, .int .i64 0])) w') := Lib.hid (fun w' a c hM => ⟨_, 0, L, rfl, hM, fun h => by rw [hl] at h; omega, fun _ => ⟨(fun h => by rw [hp] at h; cases h), fun L' h => by rw [hp] at h; injection h with h; exact ⟨h, rfl⟩⟩⟩)
      obtain ⟨z, hz⟩ : ∃ z, z = s.size - r.length := ⟨_, rfl⟩
      have HC2 := HC.out
      rw [← hz] at dz HC2
      clear hl hrd ht hn1 hn2 hn3 hr hp hz HC
      go_enter Tryz.func25, Tryz.ntmps25
      go_wp2_with (go_at_call 48; refine (HC2 _).mono ?_; rintro e w2 ⟨⟨a2, c2, rfl, hM2⟩, hB2⟩)
      go_ret2
      exact ⟨HR.out _ _ _ hM2, hB2⟩
    · have HR := Lib.hid (HNO.out (by unfold readP; rw [ht, Option.bind_some, if_neg hr]))
      have hrp := List.length_pos_iff.2 hr
      have dz : (((s.size - r.length : Nat) : Int) != (s.size : Int)) = true := by simp; omega
      obtain ⟨z, hz⟩ : ∃ z, z = s.size - r.length := ⟨_, rfl⟩
      have HC2 := HC.out
      rw [← hz] at dz HC2
      clear hl hrd ht hn1 hn2 hn3 hr hz HC hrp
      go_enter Tryz.func25, Tryz.ntmps25
      go_wp2_with (go_at_call 48; refine (HC2 _).mono ?_; rintro e w2 ⟨⟨a2, c2, rfl, hM2⟩, hB2⟩)
      go_ret2
      exact ⟨HR.out _, hB2⟩
end Go.Proofs.YtoffjpgobhcipaaGreatDoor.Trm
