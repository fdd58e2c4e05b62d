/-
  Layer 3: contract of fixed: the document's examples.
-/
import Derived.Test.YtigmakdfladjnaaU
namespace Go.Proofs.Ytigmakdfladjnaa
open Go.ChangeShapes Go.WideShapes Go.ChangeAt Go.RowKit

def ex4 : ByteArray := ⟨#[97, 98, 99, 100]⟩
def es0 : List Ed := [⟨1, 3, ⟨#[88]⟩⟩, ⟨3, 3, ⟨#[89]⟩⟩]
def es1 : List Ed := [⟨1, 2, ⟨#[98, 99]⟩⟩, ⟨2, 3, ⟨#[]⟩⟩]
theorem edits_lit (w : World) (g : Nat) (es : List Ed) (t : TypeId) (h : w.heap[g]? = some (.cells (cells3 es).toArray t (0, 0))) : Edits w (some ⟨g, 0, none⟩) es.length es := by
  refine ⟨rfl, fun k x hx => ?_⟩
  obtain ⟨c0, c1, c2⟩ := cells3_at es k x hx
  refine ⟨g, 0, rfl, ?_, ?_, ?_⟩ <;> simp only [World.cell?, h, Nat.zero_add] <;> simpa
theorem ex_undos : undos ex4 0 es0 = es1 := by
  have h1 : ex4.extract 1 3 = ⟨#[98, 99]⟩ := by decide +kernel
  have h3 : (⟨#[88]⟩ : ByteArray).size = 1 := rfl
  have h4 : (⟨#[89]⟩ : ByteArray).size = 1 := rfl
  simp [undos, undo1, es0, es1, gain', h1, h3, h4]
  rfl
theorem ex_applied : (applied ex4 es0).1 = [97, 88, 89, 100] ∧ (applied ex4 es0).2 = 0 := by decide +kernel
theorem ex_apply (w : World) (a : Option Addr) (cap : Nat) (he : Edits w a 2 es0) :
    Calls Try.prog 14 #[.string ⟨#[97, 98, 99, 100]⟩, .slice a 2 cap] w fun e w' => e = .returned (.tuple #[.string ⟨#[97, 88, 89, 100]⟩, .int .i64 0]) ∧ Below w.heap.size w w' := by
  have h := apply_any ex4 w a 2 cap es0 he (by decide +kernel) (by decide +kernel)
  rw [ex_applied.1, ex_applied.2] at h
  exact h
theorem ex_undo (w : World) (a : Option Addr) (cap : Nat) (he : Edits w a 2 es0) :
    Calls Try.prog 18 #[.string ⟨#[97, 98, 99, 100]⟩, .slice a 2 cap] w fun e w' => (∃ b c, e = .returned (.tuple #[.slice b 2 c, .int .i64 0]) ∧ Edits w' b 2 es1) ∧ Below w.heap.size w w' := by
  refine (undo_any ex4 w a 2 cap es0 he (by decide) (fun w he => apply_any ex4 w a 2 cap es0 he (by decide +kernel) (by decide +kernel))).mono ?_
  rintro e w' ⟨⟨v, L, e1, e2, e3⟩, hB⟩
  rw [if_pos ex_applied.2, ex_undos] at e3
  subst e3
  rw [ex_applied.2] at e1
  obtain ⟨b, c, rfl, h1, _⟩ := mine_edits e2
  exact ⟨⟨b, c, e1, h1⟩, hB⟩
theorem ex_diff (w : World) : Calls Try.prog 22 #[.string ⟨#[97, 97, 97]⟩, .string ⟨#[97, 97]⟩] w fun e w' => e = .returned (.agg #[.int .i64 2, .int .i64 3, .string ⟨#[]⟩]) ∧ Below w.heap.size w w' := by
  have h := diff_any ⟨#[97, 97, 97]⟩ ⟨#[97, 97]⟩ (by decide +kernel) (by decide +kernel) w
  have hd : diffed ⟨#[97, 97, 97]⟩ ⟨#[97, 97]⟩ = less ⟨#[97, 97, 97]⟩ ⟨0, 3, ⟨#[97, 97]⟩⟩ := by
    unfold diffed
    rw [if_neg (by decide)]
    rfl
  rw [hd, show (less ⟨#[97, 97, 97]⟩ ⟨0, 3, ⟨#[97, 97]⟩⟩).lo = 2 by decide +kernel, show (less ⟨#[97, 97, 97]⟩ ⟨0, 3, ⟨#[97, 97]⟩⟩).hi = 3 by decide +kernel, show (less ⟨#[97, 97, 97]⟩ ⟨0, 3, ⟨#[97, 97]⟩⟩).tx = ⟨#[]⟩ by decide +kernel] at h
  exact h
theorem ex_move (w : World) (a : Option Addr) (cap : Nat) (he : Edits w a 2 es0) :
    Calls Try.prog 16 #[.int .i64 4, .slice a 2 cap, .int .i64 3] w fun e w' => e = .returned (.tuple #[.int .i64 3, .bool true]) ∧ Below w.heap.size w w' := by
  have h := move_ok 4 3 w a 2 cap es0 he (by decide +kernel) (by decide +kernel) (by decide) (by decide)
  rw [show (moved 4 es0 3).1 = 3 by decide +kernel, show (moved 4 es0 3).2 = true by decide +kernel] at h
  exact h
theorem ex_same (w : World) (a b : Option Addr) (ca cb : Nat) (he : Edits w a 2 es1) (hf : Edits w b 2 es1) :
    Calls Try.prog 19 #[.slice a 2 ca, .slice b 2 cb] w fun e w' => e = .returned (.bool true) ∧ Below w.heap.size w w' := by
  have h := same_any w a b 2 2 ca cb es1 es1 he hf (by decide +kernel)
  have hs : same es1 es1 = true := by simp [same, es1, alike]
  rw [hs] at h
  exact h

theorem lit0 (w : World) : Edits (w.alloc (.cells #[.int .i64 1, .int .i64 3, .string ⟨#[88]⟩, .int .i64 3, .int .i64 3, .string ⟨#[89]⟩] 36)) (some ⟨w.heap.size, 0, none⟩) 2 es0 :=
  edits_lit _ _ es0 36 (heap_alloc_new w _)
theorem lit1 (w : World) : Edits (w.alloc (.cells #[.int .i64 1, .int .i64 2, .string ⟨#[98, 99]⟩, .int .i64 2, .int .i64 3, .string ⟨#[]⟩] 36)) (some ⟨w.heap.size, 0, none⟩) 2 es1 :=
  edits_lit _ _ es1 36 (heap_alloc_new w _)
set_option maxHeartbeats 4000000 in
theorem fixed_any (w : World) : Calls Try.prog 11 #[] w fun e w' => e = .returned (.bool true) ∧ Below w.heap.size w w' := by
  have he := lit0 w
  have hA : Below w.heap.size w (w.alloc (.cells #[.int .i64 1, .int .i64 3, .string ⟨#[88]⟩, .int .i64 3, .int .i64 3, .string ⟨#[89]⟩] 36)) := (Below.refl _ _).alloc (Nat.le_refl _) _
  go_enter Try.func11, Try.ntmps11
  go_wp2_with (first
    | (go_at_call 14; refine (ex_apply _ _ _ he).mono ?_; rintro e w1 ⟨rfl, hB⟩; replace he := edits_below he hB; replace hA := hA.trans (hB.mono hA.size); clear hB)
    | (go_at_call 16; refine (ex_move _ _ _ he).mono ?_; rintro e w2 ⟨rfl, hB⟩; replace he := edits_below he hB; replace hA := hA.trans (hB.mono hA.size); clear hB)
    | (go_at_call 18; refine (ex_undo _ _ _ he).mono ?_; rintro e w3 ⟨⟨b, c, rfl, hu⟩, hB⟩; replace hA := hA.trans (hB.mono hA.size); clear hB; have hn := lit1 w3; have hun := edits_below hu ((Below.refl _ w3).alloc (Nat.le_refl _) (.cells #[.int .i64 1, .int .i64 2, .string ⟨#[98, 99]⟩, .int .i64 2, .int .i64 3, .string ⟨#[]⟩] 36)); clear he)
    | (go_at_call 19; refine (ex_same _ _ _ _ _ hun hn).mono ?_; rintro e w4 ⟨rfl, hB⟩)
    | (go_at_call 22; refine (ex_diff _).mono ?_; rintro e w5 ⟨rfl, hB2⟩))
  go_ret
  replace hA := hA.alloc hA.size (.cells #[.int .i64 1, .int .i64 2, .string ⟨#[98, 99]⟩, .int .i64 2, .int .i64 3, .string ⟨#[]⟩] 36)
  replace hA := hA.trans (hB.mono hA.size)
  exact ⟨rfl, hA.trans (hB2.mono hA.size)⟩
end Go.Proofs.Ytigmakdfladjnaa
