/-
  Layer 3: the law SpanDiffs.
-/
import Derived.Test.YtigmakdfladjnaaY
import Derived.Laws.StructEq
import Derived.Deep.RegionHeld3
import Derived.Deep.RegionWith
namespace Go.Proofs.Ytigmakdfladjnaa
open Go.ChangeShapes Go.WideShapes Go.ChangeAt Go.RowKit

theorem ext_eq {x y : ByteArray} (h1 : x.size = y.size) (h : ∀ i (p : i < x.size) (q : i < y.size), x[i] = y[i]) : x = y := by
  ext i h2 h3
  · exact h1
  · exact h i h2 h3
theorem front_text (s : ByteArray) (x : Ed) (hg : Good s x) (hl : x.lo = 0) : s.extract 0 (front s x) = x.tx.extract 0 (front s x) := by
  have hf := front_le s x hg
  obtain ⟨g1, g2, g3⟩ := hg
  refine ext_eq (by rw [ByteArray.size_extract, ByteArray.size_extract]; omega) fun i p q => ?_
  rw [ByteArray.size_extract] at p q
  rw [ByteArray.getElem_extract, ByteArray.getElem_extract]
  have := front_same s x ⟨g1, g2, g3⟩ i (by omega) (by omega) (by omega)
  have e : x.lo.toNat + i = 0 + i := by omega
  simp only [e] at this
  rw [this]
  congr 1
  omega
theorem back_text (s : ByteArray) (x : Ed) (hg : Good s x) : s.extract (x.hi.toNat - back s x) x.hi.toNat = x.tx.extract (x.tx.size - back s x) x.tx.size := by
  have hf := front_le s x hg
  have hb := back_le s x hg
  obtain ⟨g1, g2, g3⟩ := hg
  refine ext_eq (by rw [ByteArray.size_extract, ByteArray.size_extract]; omega) fun i p q => ?_
  rw [ByteArray.size_extract] at p q
  rw [ByteArray.getElem_extract, ByteArray.getElem_extract]
  have := back_same s x ⟨g1, g2, g3⟩ (back s x - 1 - i) (by omega) (by omega) (by omega)
  have e1 : x.hi.toNat - 1 - (back s x - 1 - i) = x.hi.toNat - back s x + i := by omega
  have e2 : x.tx.size - 1 - (back s x - 1 - i) = x.tx.size - back s x + i := by omega
  simp only [e1, e2] at this
  exact this
/-- the one edit makes b of a -/
theorem diff_makes (a b : ByteArray) : 0 ≤ (diffed a b).lo ∧ (diffed a b).lo ≤ (diffed a b).hi ∧ (diffed a b).hi ≤ a.size ∧ (diffed a b).tx.size ≤ b.size ∧ (diffed a b).lo.toNat + (diffed a b).tx.size ≤ b.size ∧
    a.extract 0 (diffed a b).lo.toNat ++ (diffed a b).tx ++ a.extract (diffed a b).hi.toNat a.size = b := by
  by_cases h : a = b
  · have hd : diffed a b = ⟨0, 0, ⟨#[]⟩⟩ := by unfold diffed; rw [if_pos h]
    rw [hd]
    refine ⟨Int.le_refl _, Int.le_refl _, by dsimp only; omega, Nat.zero_le _, Nat.zero_le _, ?_⟩
    dsimp only
    have e1 : a.extract 0 (Int.toNat 0) = ByteArray.empty := by simp
    have e2 : (⟨#[]⟩ : ByteArray) = ByteArray.empty := rfl
    have e3 : a.extract (Int.toNat 0) a.size = a := by simp
    rw [e1, e2, e3, ByteArray.empty_append, ByteArray.empty_append, h]
  · have hd : diffed a b = less a ⟨0, a.size, b⟩ := by unfold diffed; rw [if_neg h]
    have hg : Good a ⟨0, a.size, b⟩ := ⟨Int.le_refl 0, by dsimp only; omega, by dsimp only; omega⟩
    have hb := back_le a _ hg
    have hf := front_le a _ hg
    have t1 := front_text a _ hg rfl
    have t2 := back_text a _ hg
    rw [hd]
    simp only [less]
    dsimp only at hb hf t1 t2
    generalize front a ⟨0, a.size, b⟩ = K at hb hf t1 ⊢
    generalize back a ⟨0, a.size, b⟩ = M at hb t2 ⊢
    rw [Int.toNat_natCast] at t2
    have e1 : ((0 : Int) + (K : Int)).toNat = K := by omega
    have e2 : ((a.size : Int) - (M : Int)).toNat = a.size - M := by omega
    have hsz : (b.extract K (b.size - M)).size = b.size - M - K := by rw [ByteArray.size_extract]; omega
    refine ⟨by omega, by omega, by omega, by omega, by omega, ?_⟩
    rw [e1, e2, t1, t2, ByteArray.extract_append_extract, show max K (b.size - M) = b.size - M by omega, ByteArray.extract_append_extract]
    have e3 : b.extract (min (min 0 K) (b.size - M)) (max (b.size - M) b.size) = b.extract 0 b.size := by congr 1 <;> omega
    rw [e3]
    exact ByteArray.extract_zero_size
theorem ed_eql (x y : Ed) (w : World) : (binOp .eql 36 (.agg #[.int .i64 x.lo, .int .i64 x.hi, .string x.tx]) (.agg #[.int .i64 y.lo, .int .i64 y.hi, .string y.tx])).run Try.prog w = .ok (.bool (alike x y)) w := by
  have ht : Try.prog.underlying 36 = some (.struct (Try.prog.fieldsOf 36)) := by kernel_rfl
  have hp : Try.prog.stoodInHeld 36 = false := by kernel_rfl
  have hf : (Try.prog.fieldsOf 36).toList.map (fun f => (f.name, f.type, f.offset)) = [("From", 3, 0), ("To", 3, 1), ("Text", 9, 2)] := by kernel_rfl
  rw [run_eql_struct, run_equalIn_agg _ 9999 36 _ _ ht hp]
  generalize (Try.prog.fieldsOf 36).toList = l at hf
  rcases l with _ | ⟨f1, _ | ⟨f2, _ | ⟨f3, _ | ⟨f4, l⟩⟩⟩⟩ <;> simp at hf
  obtain ⟨⟨n1, t1, o1⟩, ⟨n2, t2, o2⟩, n3, t3, o3⟩ := hf
  have u3 : Try.prog.underlying 3 = some (.int .i64) := by kernel_rfl
  have u9 : Try.prog.underlying 9 = some .string := by kernel_rfl
  simp [go_sem, n1, t1, o1, n2, t2, o2, n3, t3, o3, u3, u9, alike]
  by_cases h1 : x.lo = y.lo <;> by_cases h2 : x.hi = y.hi <;> by_cases h3 : x.tx.toList = y.tx.toList <;> simp [h1, h2, h3]
theorem ed_guard' (u v : Operand) (xs ys : Array Value) (w : World) : (eqGuard .eql 36 u v (.agg xs) (.agg ys)).run Try.prog w = .ok () w :=
  run_eqGuard_agg w .eql 36 u v xs ys (by kernel_rfl)
theorem alike_self (x : Ed) : alike x x = true := by simp [alike]
theorem cell_keep {w1 w2 : World} {p : Addr} {v : Value} (h : w1.cell? p = some v) (hB : Below w1.heap.size w1 w2) : w2.cell? p = some v := by
  rw [hB.cell (p := p) (cell_lt h)]; exact h

/-- the edit that is none -/
def x0 (L U : Nat) (tx : ByteArray) : Prop := L = 0 ∧ U = 0 ∧ tx = ⟨#[]⟩
set_option maxHeartbeats 2000000 in
theorem spanDiffs_walk (a b : ByteArray) (w0 : a.size ≤ maxLen) (w1 : b.size ≤ maxLen) (w : World) :
    Calls Try.prog 9 #[.string a, .string b] w fun e w' => e = .returned (.bool true) ∧ Below w.heap.size w w' := by
  have hA : Below w.heap.size w w := Below.refl _ _
  obtain ⟨m1, m2, m3, m4, m5, m6⟩ := diff_makes a b
  have hd := fun w => diff_any a b w0 w1 w
  have hcase : (a = b ∧ diffed a b = ⟨0, 0, ⟨#[]⟩⟩) ∨ ((a.toList == b.toList) = false ∧ ∀ w, Calls Try.prog 23 #[.string a, .agg #[.int .i64 0, .int .i64 a.size, .string b]] w fun e w' => e = .returned (.agg #[.int .i64 (diffed a b).lo, .int .i64 (diffed a b).hi, .string (diffed a b).tx]) ∧ Below w.heap.size w w') := by
    by_cases h : a = b
    · exact .inl ⟨h, by unfold diffed; rw [if_pos h]⟩
    · refine .inr ⟨by rw [bytes_eq]; exact decide_eq_false h, fun w => ?_⟩
      have hT := rtrimmed_any a ⟨0, a.size, b⟩ ⟨Int.le_refl 0, by dsimp only; omega, by dsimp only; omega⟩ w0 w1 w
      have hdd : diffed a b = less a ⟨0, a.size, b⟩ := by unfold diffed; rw [if_neg h]
      rw [← hdd] at hT
      exact hT
  generalize diffed a b = x at m1 m2 m3 m4 m5 m6 hd hcase
  obtain ⟨lo, hi, tx⟩ := x
  dsimp only at m1 m2 m3 m4 m5 m6 hd hcase
  obtain ⟨L, rfl⟩ : ∃ L : Nat, lo = (L : Int) := ⟨lo.toNat, by omega⟩
  obtain ⟨U, rfl⟩ : ∃ U : Nat, hi = (U : Int) := ⟨hi.toNat, by omega⟩
  rw [Int.toNat_natCast] at m5 m6
  rw [Int.toNat_natCast] at m6
  have HD := Lib.hid hd
  have HM := Lib.hid m6
  unfold maxLen at w0 w1
  have z1 : (a.extract 0 L).size = L := by rw [ByteArray.size_extract]; omega
  have z2 : (a.extract U a.size).size = a.size - U := by rw [ByteArray.size_extract]; omega
  have z3 : (a.extract 0 L ++ tx).size = L + tx.size := by rw [ByteArray.size_append, z1]
  have zb : L + tx.size + (a.size - U) = b.size := by rw [← m6, ByteArray.size_append, z3, z2]
  have ha1 := fun w => run_string_add_sum (P := Try.prog) w (a.extract 0 L) tx (by rw [z1]; omega)
  have ha2 := fun w => run_string_add_sum (P := Try.prog) w (a.extract 0 L ++ tx) (a.extract U a.size) (by rw [z2, z3]; omega)
  have hsl1 := slice_head a L (by omega)
  have hsl2 := slice_end a U (by omega)
  rw [m6] at ha2
  have heq := fun w => ed_eql ⟨L, U, tx⟩ ⟨L, U, tx⟩ w
  rw [alike_self] at heq
  dsimp only at heq
  have hgd := fun u v xs ys w => ed_guard' u v xs ys w
  have d1 : decide ((L : Int) < 0) = false := decide_eq_false (by omega)
  have d2 : decide (U < L) = false := decide_eq_false (by omega)
  have d3 : decide (a.size < U) = false := decide_eq_false (by omega)
  have HC := Lib.hid hcase
  have heq0 : x0 L U tx → ∀ w, (binOp .eql 36 (.agg #[.int .i64 L, .int .i64 U, .string tx]) (.agg #[.int .i64 0, .int .i64 0, .string ⟨#[]⟩])).run Try.prog w = .ok (.bool true) w := by
    rintro ⟨rfl, rfl, rfl⟩ w
    have := ed_eql ⟨0, 0, ⟨#[]⟩⟩ ⟨0, 0, ⟨#[]⟩⟩ w
    rw [alike_self] at this
    exact this
  have HE := Lib.hid heq0
  clear hd hcase m6 z1 z2 z3 zb m1 m2 m3 m4 m5 heq0
  go_enter Try.func9, Try.ntmps9
  go_wp2_with (first
    | (go_at_call 22; refine (HD.out _).mono ?_; rintro e w1 ⟨rfl, hB⟩; replace hA := below_chain hA hB; clear hB))
  have hX := box_new w1 L U tx
  replace hA := hA.alloc hA.size (.cells #[.int .i64 L, .int .i64 U, .string tx] 36)
  generalize w1.heap.size = c at hX ⊢
  generalize w1.alloc (.cells #[.int .i64 L, .int .i64 U, .string tx] 36) = w2 at hX hA ⊢
  obtain ⟨c0, c1, c2, _, _, _⟩ := box_cells hX
  go_region_held3 (fun w' => w'.cell? ⟨c, 0, none⟩ = some (.int .i64 L) ∧ w'.cell? ⟨c, 1, none⟩ = some (.int .i64 U) ∧ w'.cell? ⟨c, 2, none⟩ = some (.string tx)) (first | exact ⟨c0, c1, c2⟩ | exact ⟨k0, k1, k2⟩)
    (first | (go_at_call 11; refine (fixed_any _).mono ?_; rintro e w3 ⟨rfl, hB⟩; have k0 := cell_keep (w1 := w2.drew) c0 hB; have k1 := cell_keep (w1 := w2.drew) c1 hB; have k2 := cell_keep (w1 := w2.drew) c2 hB))
  clear c0 c1 c2
  replace hA := hA.drew.trans (hB.mono hA.size)
  clear hB
  rcases HC.out with ⟨h1, h2⟩ | ⟨h1, h2⟩
  · have hq : (a.toList == b.toList) = true := by rw [bytes_eq]; exact decide_eq_true h1
    have hx0 : x0 L U tx := by
      injection h2 with e1 e2 e3
      exact ⟨by omega, by omega, e3⟩
    have he0 := HE.out hx0
    clear h1 h2 hx0 heq
    go_wp2
    go_ret
    exact ⟨rfl, hA⟩
  · have HT := Lib.hid h2
    clear h2
    go_wp2
    go_region_with (go_at_call 23; refine (HT.out _).mono ?_; rintro e w4 ⟨rfl, hB2⟩; have l0 := cell_keep (w1 := w3.drew) k0 hB2; have l1 := cell_keep (w1 := w3.drew) k1 hB2; have l2 := cell_keep (w1 := w3.drew) k2 hB2)
    all_goals go_wp2
    all_goals go_ret
    all_goals exact ⟨rfl, hA.drew.trans (hB2.mono hA.size)⟩
end Go.Proofs.Ytigmakdfladjnaa
