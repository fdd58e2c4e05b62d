/-
  Contracts of runes.Read, runes.Bad, and of the document's Form, Read and Bad.
-/
import Derived.Test.YtpbkdgbmnffooaaRa
import Derived.Deep.QuietTactic
import Derived.BigQuiet
import Derived.Lib.SmallJoins
namespace Go.Proofs.Ytpbkdgbmnffooaa
open Go.ChangeShapes Go.WideShapes Go.ChangeAt Go.RowKit
open Go.Lib (decodeL)

theorem drop_ne (s : ByteArray) (pos : Nat) (h : pos < s.size) : s.data.toList.drop pos ≠ [] := by
  intro e; have := congrArg List.length e; simp at this; omega
theorem below_iter (w : World) (s : ByteArray) (pos : Nat) : Below w.heap.size w (w.iter s pos) := (Below.refl _ w).alloc (Nat.le_refl _) _

theorem extract_decode (s : ByteArray) (pos : Nat) : Utf8.decode (s.extract pos s.size) 0 = Utf8.decode s pos := by
  rw [← Lib.decodeL_drop, ← Lib.decodeL_drop, List.drop_zero]
  congr 1
  rw [← ByteArray.toList_eq, extract_list, List.take_of_length_le (by simp)]
theorem wide_good (l : List UInt8) (hne : l ≠ []) (hb : isBad l = false) : wide l = (decodeL l).2 := by
  simp [wide, hne, hb]

set_option maxHeartbeats 400000 in
theorem read_any (s : ByteArray) (at' : Int) (w : World) (hs : s.size ≤ maxLen) (l : List UInt8) (hl : l = if 0 ≤ at' then s.data.toList.drop at'.toNat else []) :
    Calls Try.prog 32 #[.string s, .int .i64 at'] w fun e w' => e = .returned (.tuple #[.int .i32 (chr l), .int .i64 (wide l)]) ∧ Below w.heap.size w w' := by
  have hs' := hs
  unfold maxLen at hs
  by_cases h0 : at' < 0
  · have hc : chr l = 0 := by subst hl; rw [if_neg (by omega)]; simp [chr]
    have hw : wide l = 0 := by subst hl; rw [if_neg (by omega)]; simp [wide]
    rw [hc, hw]
    clear hc hw hl
    go_enter Try.func32, Try.ntmps32
    go_wp2
    go_ret2
    exact ⟨rfl, Below.refl _ _⟩
  · obtain ⟨pos, rfl⟩ : ∃ pos : Nat, at' = (pos : Int) := ⟨at'.toNat, by omega⟩
    rw [if_pos (by omega)] at hl
    simp only [Int.toNat_natCast] at hl
    by_cases hp : pos < s.size
    · have hne := drop_ne s pos hp
      have hxs : 0 < (s.extract pos s.size).size := by simp; omega
      have hdx : Utf8.decode (s.extract pos s.size) 0 = Utf8.decode s pos := extract_decode s pos
      have hnx : ∀ ty, (Instr.next (.pointer (some ⟨w.heap.size, 0, none⟩)) true ty).run Try.prog (w.iter (s.extract pos s.size) 0) = .ok (.tuple #[.bool true, .int .i64 0, .int .i32 (Utf8.decode s pos).1]) (w.iter (s.extract pos s.size) (Utf8.decode s pos).2) := by
        intro ty
        rw [run_next_any w (s.extract pos s.size) 0 ty hxs, hdx]; simp
      clear hdx hxs
      cases hb : isBad (s.data.toList.drop pos) with
      | true =>
        have hc : chr l = 0 := by subst hl; simp [chr, hb]
        have hw : wide l = 0 := by subst hl; simp [wide, hb]
        rw [hc, hw]
        clear hc hw hl
        have HB := Lib.hid hb
        clear hb
        go_enter Try.func32, Try.ntmps32
        go_wp2
        go_loopw [] (fun wr => wr = w.iter (s.extract pos s.size) 0) (fun _ => 0)
        case atStart => exact rfl
        case round =>
          obtain rfl := hrel
          go_wp2_with (go_at_call 40; refine (begins_any s pos _ hp hs').mono ?_; rintro e w' ⟨rfl, rfl⟩; rw [HB.out])
          go_ret2
          exact ⟨rfl, below_iter _ _ _⟩
      | false =>
        have hc : chr l = ((Utf8.decode s pos).1 : Int) := by rw [← Lib.decodeL_drop]; subst hl; simp [chr, hb, hne]
        have hw : wide l = (form ((Utf8.decode s pos).1 : Int)).length := by rw [← Lib.decodeL_drop]; subst hl; rw [wide_good _ hne hb, good_len _ hne hb]
        rw [hc, hw]
        clear hc hw hl
        have HB := Lib.hid hb
        clear hb
        go_enter Try.func32, Try.ntmps32
        go_wp2
        go_loopw [] (fun wr => wr = w.iter (s.extract pos s.size) 0) (fun _ => 0)
        case atStart => exact rfl
        case round =>
          obtain rfl := hrel
          go_wp2_with (first
            | (go_at_call 40; refine (begins_any s pos _ hp hs').mono ?_; rintro e w' ⟨rfl, rfl⟩; rw [HB.out])
            | (go_at_call 33; refine (form_any _ _).mono ?_; rintro e w' ⟨rfl, rfl⟩))
          go_ret2
          exact ⟨rfl, below_iter _ _ _⟩
    · have hc : chr l = 0 := by subst hl; rw [List.drop_of_length_le (by simp; omega)]; simp [chr]
      have hw : wide l = 0 := by subst hl; rw [List.drop_of_length_le (by simp; omega)]; simp [wide]
      rw [hc, hw]
      clear hc hw hl
      go_enter Try.func32, Try.ntmps32
      go_wp2
      go_ret2
      exact ⟨rfl, Below.refl _ _⟩

theorem width_pos' (s : ByteArray) (pos : Nat) (h : pos < s.size) : 1 ≤ (Utf8.decode s pos).2 := by
  rw [← Lib.decodeL_drop]; exact (good_width _ (drop_ne s pos h)).1

end Go.Proofs.Ytpbkdgbmnffooaa
