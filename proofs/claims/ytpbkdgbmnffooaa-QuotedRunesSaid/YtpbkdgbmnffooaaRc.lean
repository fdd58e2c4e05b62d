/-
  Contracts of the document's Form, Read and Bad for layer 1.
-/
import Derived.Test.YtpbkdgbmnffooaaRb
import Derived.Laws.BytesString
import Derived.Deep.WholeRow
namespace Go.Proofs.Ytpbkdgbmnffooaa
open Go.ChangeShapes Go.WideShapes Go.ChangeAt Go.RowKit
open Go.Lib (decodeL)

theorem foldl_bytes (ns : List Int) : ∀ s : ByteArray, (ns.foldl (fun r n => r.push (UInt8.ofNat n.toNat)) s).data.toList = s.data.toList ++ ns.map fun n => UInt8.ofNat n.toNat := by
  induction ns with
  | nil => intro s; simp
  | cons n t ih => intro s; rw [List.foldl_cons, ih]; simp
theorem conv_new (w : World) (ns : List Int) (c : Array Value) (k : Nat) (hc : c = (ns.map (Value.int .u8)).toArray) (hk : ns.length = k) :
    (convert 32 9 (.slice (some ⟨w.heap.size, 0, none⟩) k k)).run Try.prog (w.alloc (.cells c 5)) = .ok (.string ⟨(ns.map fun n => UInt8.ofNat n.toNat).toArray⟩) (w.alloc (.cells c 5)) := by
  subst hk
  rw [run_convert_bytes_string _ 32 9 5 _ _ _ Try.underlying32 Try.underlying5 Try.underlying9, run_bytesToString _ _ _ _ ns]
  · congr 2
    rw [ba_of_list (foldl_bytes ns _)]
    simp
  · unfold loadCells
    subst hc
    exact run_loadCellsFrom_new _ _ _ _ (by simp)

theorem form_bytes (r : Int) (h : isChar r = true) (ns : List Int) (hn : Lib.encodeRuneZ r = ns) : (ns.map fun n => UInt8.ofNat n.toNat) = form r := by
  have hf : form r = Lib.encodeRune r := by simp [form, h]
  rw [hf, ← hn]; rfl

theorem rform_one (r : Int) (w : World) (h : 0 ≤ r) (h1 : r ≤ 127) :
    Calls Try.prog 17 #[.int .i64 r] w fun e w' => e = .returned (.string ⟨(form r).toArray⟩) ∧ Below w.heap.size w w' := by
  have hc := Lib.hid (show isChar r = true by unfold isChar; rw [decide_eq_true_eq]; omega)
  have hn := conv_new w [r] _ 1 rfl rfl
  rw [form_bytes r hc.out _ (Lib.encodeRuneZ_one (by omega) (by omega))] at hn
  simp only [List.map_cons, List.map_nil] at hn
  go_enter Try.func17, Try.ntmps17
  go_wp2_with (go_at_call 25; refine (may_any _ _).mono ?_; rintro e w' ⟨rfl, rfl⟩; rw [hc.out])
  go_ret
  exact ⟨rfl, (Below.refl _ w).alloc (Nat.le_refl _) _⟩
theorem rform_two (r : Int) (w : World) (h : 128 ≤ r) (h1 : r ≤ 2047) :
    Calls Try.prog 17 #[.int .i64 r] w fun e w' => e = .returned (.string ⟨(form r).toArray⟩) ∧ Below w.heap.size w w' := by
  have hc := Lib.hid (show isChar r = true by unfold isChar; rw [decide_eq_true_eq]; omega)
  have hn := conv_new w [192 + r / 64, 128 + r % 64] _ 2 rfl rfl
  rw [form_bytes r hc.out _ (Lib.encodeRuneZ_two (by omega) (by omega))] at hn
  simp only [List.map_cons, List.map_nil] at hn
  go_enter Try.func17, Try.ntmps17
  go_wp2_with (go_at_call 25; refine (may_any _ _).mono ?_; rintro e w' ⟨rfl, rfl⟩; rw [hc.out])
  go_ret
  exact ⟨rfl, (Below.refl _ w).alloc (Nat.le_refl _) _⟩
theorem rform_three (r : Int) (w : World) (h : 2048 ≤ r) (h1 : r ≤ 65535) (hh : r < 55296 ∨ 57343 < r) :
    Calls Try.prog 17 #[.int .i64 r] w fun e w' => e = .returned (.string ⟨(form r).toArray⟩) ∧ Below w.heap.size w w' := by
  have hc := Lib.hid (show isChar r = true by unfold isChar; rw [decide_eq_true_eq]; omega)
  have hn := conv_new w [224 + r / 4096, 128 + r / 64 % 64, 128 + r % 64] _ 3 rfl rfl
  rw [form_bytes r hc.out _ (Lib.encodeRuneZ_three (by omega))] at hn
  simp only [List.map_cons, List.map_nil] at hn
  clear hh
  go_enter Try.func17, Try.ntmps17
  go_wp2_with (go_at_call 25; refine (may_any _ _).mono ?_; rintro e w' ⟨rfl, rfl⟩; rw [hc.out])
  go_ret
  exact ⟨rfl, (Below.refl _ w).alloc (Nat.le_refl _) _⟩
theorem rform_four (r : Int) (w : World) (h : 65536 ≤ r) (h1 : r ≤ 1114111) :
    Calls Try.prog 17 #[.int .i64 r] w fun e w' => e = .returned (.string ⟨(form r).toArray⟩) ∧ Below w.heap.size w w' := by
  have hc := Lib.hid (show isChar r = true by unfold isChar; rw [decide_eq_true_eq]; omega)
  have hn := conv_new w [240 + r / 262144, 128 + r / 4096 % 64, 128 + r / 64 % 64, 128 + r % 64] _ 4 rfl rfl
  rw [form_bytes r hc.out _ (Lib.encodeRuneZ_four (by omega) (by omega))] at hn
  simp only [List.map_cons, List.map_nil] at hn
  go_enter Try.func17, Try.ntmps17
  go_wp2_with (go_at_call 25; refine (may_any _ _).mono ?_; rintro e w' ⟨rfl, rfl⟩; rw [hc.out])
  go_ret
  exact ⟨rfl, (Below.refl _ w).alloc (Nat.le_refl _) _⟩
theorem rform_none (r : Int) (w : World) (h : isChar r = false) :
    Calls Try.prog 17 #[.int .i64 r] w fun e w' => e = .returned (.string ⟨(form r).toArray⟩) ∧ Below w.heap.size w w' := by
  have hc := Lib.hid h
  have hf : form r = [] := by simp [form, h]
  rw [hf]
  clear h hf
  go_enter Try.func17, Try.ntmps17
  go_wp2_with (go_at_call 25; refine (may_any _ _).mono ?_; rintro e w' ⟨rfl, rfl⟩; rw [hc.out])
  go_ret
  exact ⟨rfl, Below.refl _ w⟩
theorem rform_any (r : Int) (w : World) :
    Calls Try.prog 17 #[.int .i64 r] w fun e w' => e = .returned (.string ⟨(form r).toArray⟩) ∧ Below w.heap.size w w' := by
  by_cases h : 0 ≤ r ∧ r ≤ 1114111 ∧ (r < 55296 ∨ 57343 < r)
  · by_cases h1 : r ≤ 127
    · exact rform_one r w h.1 h1
    · by_cases h2 : r ≤ 2047
      · exact rform_two r w (by omega) h2
      · by_cases h3 : r ≤ 65535
        · exact rform_three r w (by omega) h3 h.2.2
        · exact rform_four r w (by omega) h.2.1
  · exact rform_none r w (by unfold isChar; rw [decide_eq_false_iff_not]; exact h)
end Go.Proofs.Ytpbkdgbmnffooaa
