/-
  Layer 3: lists of edits of a call's own; contracts of span.Diff and Trim.
-/
import Derived.Test.YtigmakdfladjnaaP
import Derived.OwnWalk
import Derived.Laws.AppendOwn
namespace Go.Proofs.Ytigmakdfladjnaa
open Go.ChangeShapes Go.WideShapes Go.ChangeAt Go.RowKit

theorem good_of {s : ByteArray} {es : List Ed} {e : Int} (h0 : 0 ≤ e) (h : stands s.size e es = true) : ∀ x ∈ es, Good s x := by
  induction es generalizing e with
  | nil => intro x hx; cases hx
  | cons y l ih =>
    unfold stands at h
    rw [Bool.and_eq_true, decide_eq_true_iff] at h
    intro x hx
    rcases List.mem_cons.1 hx with rfl | hx
    · exact ⟨by omega, h.1.2.1, h.1.2.2⟩
    · exact ih (by omega) h.2 x hx
/-- what is left of edits made less -/
def keeps (x : Ed) : Bool := decide (x.lo < x.hi) || decide (0 < x.tx.size)
def trims (s : ByteArray) (es : List Ed) : List Ed := (es.map (less s)).filter keeps
def cells3 (es : List Ed) : List Value := es.flatMap fun x => [.int .i64 x.lo, .int .i64 x.hi, .string x.tx]
theorem cells3_len : ∀ es, (cells3 es).length = es.length * 3
  | [] => rfl
  | x :: l => by rw [cells3, List.flatMap_cons, List.length_append, ← cells3, cells3_len l]; simp; omega
theorem cells3_app (a b : List Ed) : cells3 (a ++ b) = cells3 a ++ cells3 b := by simp [cells3]
theorem cells3_at : ∀ (es : List Ed) (k : Nat) (x : Ed), es[k]? = some x → (cells3 es)[k * 3]? = some (.int .i64 x.lo) ∧ (cells3 es)[k * 3 + 1]? = some (.int .i64 x.hi) ∧ (cells3 es)[k * 3 + 2]? = some (.string x.tx)
  | [], k, x, h => by simp at h
  | y :: l, 0, x, h => by
    simp at h; subst h
    exact ⟨rfl, rfl, rfl⟩
  | y :: l, k + 1, x, h => by
    have := cells3_at l k x (by simpa using h)
    have e : cells3 (y :: l) = [.int .i64 y.lo, .int .i64 y.hi, .string y.tx] ++ cells3 l := rfl
    rw [e]
    refine ⟨?_, ?_, ?_⟩
    · rw [List.getElem?_append_right (by simp; omega), show (k + 1) * 3 - [Value.int .i64 y.lo, .int .i64 y.hi, .string y.tx].length = k * 3 by simp; omega]; exact this.1
    · rw [List.getElem?_append_right (by simp; omega), show (k + 1) * 3 + 1 - [Value.int .i64 y.lo, .int .i64 y.hi, .string y.tx].length = k * 3 + 1 by simp; omega]; exact this.2.1
    · rw [List.getElem?_append_right (by simp; omega), show (k + 1) * 3 + 2 - [Value.int .i64 y.lo, .int .i64 y.hi, .string y.tx].length = k * 3 + 2 by simp; omega]; exact this.2.2
/-- a list of edits of a call's own -/
def Mine (w : World) (base : Nat) (v : Value) (es : List Ed) : Prop := w.ownsRow base 36 3 v es.length (cells3 es)
theorem mine_edits {w : World} {base : Nat} {v : Value} {es : List Ed} (h : Mine w base v es) : ∃ a cap, v = .slice a es.length cap ∧ Edits w a es.length es ∧ es.length ≤ maxLen := by
  rcases h.2 with ⟨rfl, h0⟩ | ⟨g, cap, cur, rfl, hb, hg, hn, hm, hs, ht⟩
  · rw [h0]
    exact ⟨none, 0, rfl, ⟨h0, fun k x hx => by have := (List.getElem?_eq_some_iff.1 hx).1; omega⟩, by unfold maxLen; omega⟩
  · refine ⟨some ⟨g, 0, none⟩, cap, rfl, ⟨rfl, fun k x hx => ?_⟩, by omega⟩
    obtain ⟨c0, c1, c2⟩ := cells3_at es k x hx
    have a0 := h.cells (g := g) rfl _ _ c0
    have a1 := h.cells (g := g) rfl _ _ c1
    have a2 := h.cells (g := g) rfl _ _ c2
    refine ⟨g, 0, rfl, ?_, ?_, ?_⟩
    · rw [Nat.zero_add]
      by_cases h0 : k * 3 = 0
      · simpa [Addr.add, h0] using a0
      · simpa [Addr.add, h0] using a0
    · rw [Nat.zero_add]; simpa [Addr.add] using a1
    · rw [Nat.zero_add]; simpa [Addr.add] using a2
theorem mine_below {w w' : World} {base : Nat} {v : Value} {es : List Ed} (h : Mine w base v es) (hB : Below w.heap.size w w') : Mine w' base v es :=
  h.kept (w := w) (w' := w') (row := none) ⟨hB.os, hB.tape, hB.output, hB.size, fun k hk _ => hB.block k hk⟩ (by cases v.ownBlock <;> simp)
theorem mine_nil (w : World) (base : Nat) : Mine w base (.slice none 0 0) [] := World.ownsRow_nil _ _ _ _

theorem box_after {w w1 : World} {lo hi : Int} {tx : ByteArray} (hB : Below (w.alloc (.cells #[.int .i64 lo, .int .i64 hi, .string tx] 36)).heap.size (w.alloc (.cells #[.int .i64 lo, .int .i64 hi, .string tx] 36)) w1) :
    Box w1 w.heap.size lo hi tx ∧ Below w.heap.size w w1 := by
  have hs : (w.alloc (.cells #[.int .i64 lo, .int .i64 hi, .string tx] 36)).heap.size = w.heap.size + 1 := by simp
  refine ⟨?_, ((Below.refl _ _).alloc (Nat.le_refl _) _).trans (hB.mono (by rw [hs]; omega))⟩
  unfold Box
  rw [hB.block _ (by rw [hs]; omega)]
  exact box_new w lo hi tx
theorem box_below {w w1 : World} {b : Nat} {lo hi : Int} {tx : ByteArray} (h : Box w b lo hi tx) (hB : Below w.heap.size w w1) : Box w1 b lo hi tx := by
  unfold Box at h ⊢
  rw [hB.block _ (Array.getElem?_eq_some_iff.1 h).1]; exact h
/-- the one edit that makes b of a -/
noncomputable def diffed (a b : ByteArray) : Ed := if a = b then ⟨0, 0, ⟨#[]⟩⟩ else less a ⟨0, a.size, b⟩
theorem bytes_eq (a b : ByteArray) : (a.toList == b.toList) = decide (a = b) := by
  by_cases h : a = b
  · subst h; simp
  · have : a.toList ≠ b.toList := fun e => h (by
      rw [ByteArray.toList_eq, ByteArray.toList_eq] at e
      exact ByteArray.ext (Array.toList_inj.1 e))
    simp [h, this]
set_option maxHeartbeats 1000000 in
theorem diff_any (a b : ByteArray) (ha : a.size ≤ maxLen) (hb : b.size ≤ maxLen) (w : World) :
    Calls Try.prog 22 #[.string a, .string b] w fun e w' => e = .returned (.agg #[.int .i64 (diffed a b).lo, .int .i64 (diffed a b).hi, .string (diffed a b).tx]) ∧ Below w.heap.size w w' := by
  by_cases h : a = b
  · have hd : diffed a b = ⟨0, 0, ⟨#[]⟩⟩ := by unfold diffed; rw [if_pos h]
    have hq : (a.toList == b.toList) = true := by rw [bytes_eq]; exact decide_eq_true h
    rw [hd]
    go_enter Try.func22, Try.ntmps22
    go_wp2
    (try simp only [Exit.inBlock, Exit.then])
    exact bodyPost_ret (v := .agg #[.int .i64 0, .int .i64 0, .string ⟨#[]⟩]) (results_cell_row rfl _ _ w.heap.size 36 _ (0, 0) _ rfl (box_new w 0 0 ⟨#[]⟩) Try.underlying36 rfl info36) rfl ⟨rfl, (Below.refl _ _).alloc (Nat.le_refl _) _⟩
  · have hd : diffed a b = less a ⟨0, a.size, b⟩ := by unfold diffed; rw [if_neg h]
    have hq : (a.toList == b.toList) = false := by rw [bytes_eq]; exact decide_eq_false h
    rw [hd]
    have hT := trimmed_any a ⟨0, a.size, b⟩ ⟨Int.le_refl 0, by dsimp only; omega, by dsimp only; omega⟩ ha hb
    dsimp only at hT
    generalize less a ⟨0, a.size, b⟩ = y at hT ⊢
    have HT := Lib.hid hT
    clear hT
    go_enter Try.func22, Try.ntmps22
    go_wp2_with (first
      | (go_at_call 31; refine (HT.out _).mono ?_; rintro e w1 ⟨rfl, hB⟩; obtain ⟨hX, hB1⟩ := box_after hB)
      | (refine wpList_store_rowTo rfl 36 (.tmp 4) (.tmp 14) rfl rfl w.heap.size #[.int .i64 y.lo, .int .i64 y.hi, .string y.tx] rfl rfl 36 #[.int .i64 0, .int .i64 0, .string ⟨#[]⟩] hX info36 rfl (by simp [Value.oneCell']) ?_))
    (try simp only [Exit.inBlock, Exit.then])
    exact bodyPost_ret (v := .agg #[.int .i64 y.lo, .int .i64 y.hi, .string y.tx]) (results_cell_row rfl _ _ w.heap.size 36 _ (0, 0) _ rfl (setRow_heap _ _ _ _ _ _ hX) Try.underlying36 rfl info36) rfl ⟨rfl, below_setRow hB1 (Nat.le_refl _) _⟩
end Go.Proofs.Ytigmakdfladjnaa
