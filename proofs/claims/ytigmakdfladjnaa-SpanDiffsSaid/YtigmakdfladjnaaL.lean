/-
  Layer 3: contract of the document's Same.
-/
import Derived.Test.YtigmakdfladjnaaK
import Derived.Laws.StructEq
namespace Go.Proofs.Ytigmakdfladjnaa
open Go.ChangeShapes Go.WideShapes Go.ChangeAt Go.RowKit

/-- are two edits alike? -/
def alike (x y : Ed) : Bool := decide (x.lo = y.lo) && decide (x.hi = y.hi) && (x.tx.toList == y.tx.toList)
/-- are lists alike from a place? -/
def same : List Ed → List Ed → Bool
  | [], [] => true
  | x :: l, y :: m => alike x y && same l m
  | _, _ => false
theorem same_at (l m : List Ed) (k : Nat) (x y : Ed) (hx : l[k]? = some x) (hy : m[k]? = some y) : same (l.drop k) (m.drop k) = (alike x y && same (l.drop (k + 1)) (m.drop (k + 1))) := by
  obtain ⟨h1, h2⟩ := List.getElem?_eq_some_iff.mp hx
  obtain ⟨h3, h4⟩ := List.getElem?_eq_some_iff.mp hy
  rw [List.drop_eq_getElem_cons h1, List.drop_eq_getElem_cons h3, h2, h4]; rfl
theorem same_len : ∀ (l m : List Ed), l.length ≠ m.length → same l m = false
  | [], [], h => absurd rfl h
  | x :: l, y :: m, h => by simp [same, same_len l m (by simpa using h)]
  | [], _ :: _, _ => rfl
  | _ :: _, [], _ => rfl
theorem ed_neq (x y : Ed) (w : World) : (binOp .neq 36 (.agg #[.int .i64 x.lo, .int .i64 x.hi, .string x.tx]) (.agg #[.int .i64 y.lo, .int .i64 y.hi, .string y.tx])).run Try.prog w = .ok (.bool (!alike x y)) w := by
  have ht : Try.prog.underlying 36 = some (.struct (Try.prog.fieldsOf 36)) := by kernel_rfl
  have hp : Try.prog.stoodInHeld 36 = false := by kernel_rfl
  have hf : (Try.prog.fieldsOf 36).toList.map (fun f => (f.name, f.type, f.offset)) = [("From", 3, 0), ("To", 3, 1), ("Text", 9, 2)] := by kernel_rfl
  rw [run_neq_struct, run_equalIn_agg _ 9999 36 _ _ ht hp]
  generalize (Try.prog.fieldsOf 36).toList = l at hf
  rcases l with _ | ⟨f1, _ | ⟨f2, _ | ⟨f3, _ | ⟨f4, l⟩⟩⟩⟩ <;> simp at hf
  obtain ⟨⟨n1, t1, o1⟩, ⟨n2, t2, o2⟩, n3, t3, o3⟩ := hf
  have u3 : Try.prog.underlying 3 = some (.int .i64) := by kernel_rfl
  have u9 : Try.prog.underlying 9 = some .string := by kernel_rfl
  simp [go_sem, n1, t1, o1, n2, t2, o2, n3, t3, o3, u3, u9, alike]
  by_cases h1 : x.lo = y.lo <;> by_cases h2 : x.hi = y.hi <;> by_cases h3 : x.tx.toList = y.tx.toList <;> simp [h1, h2, h3]
theorem ed_guard (u v : Operand) (xs ys : Array Value) (w : World) : (eqGuard .neq 36 u v (.agg xs) (.agg ys)).run Try.prog w = .ok () w :=
  run_eqGuard_agg w .neq 36 u v xs ys (by kernel_rfl)
set_option maxRecDepth 100000 in
set_option maxHeartbeats 4000000 in
theorem same_any (w : World) (a b : Option Addr) (n m ca cb : Nat) (es fs : List Ed) (he : Edits w a n es) (hf : Edits w b m fs) (hn : n ≤ maxLen) :
    Calls Try.prog 19 #[.slice a n ca, .slice b m cb] w fun e w' => e = .returned (.bool (same es fs)) ∧ Below w.heap.size w w' := by
  have HL := Lib.hid (And.intro he.1 hf.1)
  unfold maxLen at hn
  by_cases hnm : n = m
  · subst hnm
    go_enter Try.func19, Try.ntmps19
    go_wp2
    go_loopw [5] (fun i wr => ∃ k : Nat, k ≤ n ∧ i = .int .i64 k ∧ Below w.heap.size w wr ∧ Hid (same es fs = same (es.drop k) (fs.drop k))) (fun i _ => n - (intOf i).toNat)
    case atStart => exact ⟨0, Nat.zero_le _, rfl, Below.refl _ _, Lib.hid (by simp)⟩
    case round =>
      obtain ⟨k, hk, rfl, hB, HS⟩ := hrel
      by_cases hlt : k < n
      · obtain ⟨⟨lo, hi, tx⟩, hxk⟩ : ∃ x, es[k]? = some x := ⟨es[k]'(by have := HL.out.1; omega), List.getElem?_eq_getElem (by have := HL.out.1; omega)⟩
        obtain ⟨⟨lo2, hi2, tx2⟩, hyk⟩ : ∃ x, fs[k]? = some x := ⟨fs[k]'(by have := HL.out.2; omega), List.getElem?_eq_getElem (by have := HL.out.2; omega)⟩
        have her := edits_below he hB
        have hfr := edits_below hf hB
        obtain ⟨g', off, rfl, c0, c1, c2⟩ := her.2 k _ hxk
        obtain ⟨g2, off2, rfl, p0, p1, p2⟩ := hfr.2 k _ hyk
        dsimp only at c0 c1 c2 p0 p1 p2
        have HX := Lib.hid (same_at es fs k _ _ hxk hyk)
        have i1 : (k : Int) < (n : Int) := by omega
        clear hxk her hyk hfr
        have hne := fun w => ed_neq ⟨lo, hi, tx⟩ ⟨lo2, hi2, tx2⟩ w
        have hgd := fun u v w => ed_guard u v #[.int .i64 lo, .int .i64 hi, .string tx] #[.int .i64 lo2, .int .i64 hi2, .string tx2] w
        dsimp only at hne
        go_wp2
        go_quiet (fail)
        cases hal : alike ⟨lo, hi, tx⟩ ⟨lo2, hi2, tx2⟩ with
        | true =>
          rw [hal] at HX hne
          go_wp2
          go_roundw
          case rel => exact ⟨k + 1, by omega, by go_num, below_drewN hB _, Lib.hid (by rw [HS.out, HX.out]; rfl)⟩
          case measure => simp [intOf]; omega
        | false =>
          rw [hal] at HX hne
          have HY := Lib.hid (show same es fs = false by rw [HS.out, HX.out]; rfl)
          go_wp2
          go_ret
          rw [HY.out]
          exact ⟨rfl, below_drewN hB _⟩
      · have hdr : es.drop k = [] := List.drop_of_length_le (by have := HL.out.1; omega)
        have hdf : fs.drop k = [] := List.drop_of_length_le (by have := HL.out.2; omega)
        have HY := Lib.hid (show same es fs = true by rw [HS.out, hdr, hdf]; rfl)
        clear hdr hdf
        go_wp2
        go_ret
        rw [HY.out]
        exact ⟨rfl, hB⟩
  · have h1 : same es fs = false := same_len es fs (by have := HL.out; omega)
    rw [h1]
    have d1 : decide ((n : Int) = (m : Int)) = false := by rw [decide_eq_false_iff_not]; omega
    clear h1
    go_enter Try.func19, Try.ntmps19
    go_wp2
    go_ret
    exact ⟨rfl, Below.refl _ _⟩
end Go.Proofs.Ytigmakdfladjnaa
