/-
  The comparison of characters with the document's, and the statement RunesBad walked.
-/
import Derived.Test.YtmlaefdfpekhcaaT
import Derived.Test.YtmlaefdfpekhcaaH
import Derived.Deep.QuietTactic
import Derived.BigQuiet
namespace Go.Proofs.Ytmlaefdfpekhcaa
open Go.ChangeShapes Go.WideShapes Go.ChangeAt Go.RowKit
open Go.Lib (decodeL)

theorem below_chain {a b c : World} (h : Below a.heap.size a b) (k : Below b.heap.size b c) : Below a.heap.size a c := h.trans (k.mono h.size)
theorem cell_lt {w : World} {a : Addr} {v : Value} (h : w.cell? a = some v) : a.block < w.heap.size := by
  unfold World.cell? at h
  cases hb : w.heap[a.block]? with
  | none => rw [hb] at h; cases h
  | some o => exact (Array.getElem?_eq_some_iff.1 hb).1
/-- a slice that reads as numbers -/
def Reads (K : IntKind) (w : World) (v : Value) (xs : List Int) : Prop :=
  ∃ a cap, v = .slice a xs.length cap ∧ ∀ k x, xs[k]? = some x → ∃ g, a = some ⟨g, 0, none⟩ ∧ w.cell? ⟨g, k, none⟩ = some (.int K x)
theorem reads_of {K : IntKind} {w : World} {base : Nat} {e : TypeId} {v : Value} {xs : List Int} (h : w.ownsRow base e 1 v xs.length (xs.map (Value.int K))) : Reads K w v xs := by
  rcases h.2 with ⟨rfl, h0⟩ | ⟨g, cap, cur, rfl, _⟩
  · have : xs = [] := List.length_eq_zero_iff.1 h0
    subst this
    exact ⟨none, 0, rfl, fun k x hk => by simp at hk⟩
  · refine ⟨_, cap, rfl, fun k x hk => ⟨g, rfl, ?_⟩⟩
    have := h.cells (g := g) rfl k (.int K x) (by simp [hk])
    have ha : (⟨g, 0, none⟩ : Addr).add k = ⟨g, k, none⟩ := by unfold Addr.add; split <;> simp_all
    rwa [ha] at this
theorem reads_below {K : IntKind} {w w' : World} {v : Value} {xs : List Int} (h : Reads K w v xs) (hB : Below w.heap.size w w') : Reads K w' v xs := by
  obtain ⟨a, cap, rfl, hc⟩ := h
  refine ⟨a, cap, rfl, fun k x hk => ?_⟩
  obtain ⟨g, hg, hcell⟩ := hc k x hk
  exact ⟨g, hg, (hB.cell (p := ⟨g, k, none⟩) (cell_lt hcell)).trans hcell⟩

set_option maxHeartbeats 1000000 in
theorem same_yes (w : World) (v1 v2 : Value) (xs : List Int) (h1 : Reads .i32 w v1 xs) (h2 : Reads .i64 w v2 xs) (hx : allChar xs) (hlen : xs.length ≤ 1048576) :
    Calls Try.prog 25 #[v1, v2] w fun e w' => e = .returned (.bool true) ∧ Below w.heap.size w w' := by
  obtain ⟨a1, cap1, rfl, hc1⟩ := h1
  obtain ⟨a2, cap2, rfl, hc2⟩ := h2
  go_enter Try.func25, Try.ntmps25
  go_wp2
  go_loopw [5] (fun i wr => ∃ k : Nat, k ≤ xs.length ∧ i = .int .i64 k ∧ Below w.heap.size w wr) (fun i _ => xs.length - (intOf i).toNat)
  case atStart => exact ⟨0, Nat.zero_le _, rfl, Below.refl _ _⟩
  case round =>
    obtain ⟨k, hk, rfl, hB⟩ := hrel
    by_cases hlt : k < xs.length
    · obtain ⟨x, hxk⟩ : ∃ x, xs[k]? = some x := ⟨xs[k], List.getElem?_eq_getElem hlt⟩
      have hxc : isChar x = true := hx x (List.mem_of_getElem? hxk)
      unfold isChar at hxc
      rw [decide_eq_true_eq] at hxc
      obtain ⟨hx0, hx1, _⟩ := hxc
      obtain ⟨g1, rfl, e1⟩ := hc1 k x hxk
      obtain ⟨g2, rfl, e2⟩ := hc2 k x hxk
      have c1 := (hB.cell (p := ⟨g1, k, none⟩) (cell_lt e1)).trans e1
      have c2 := (hB.cell (p := ⟨g2, k, none⟩) (cell_lt e2)).trans e2
      have i1 : (k : Int) < (xs.length : Int) := by omega
      have hxw : IntKind.i64.wrap x = x := by rw [IntKind.wrap_i64]; omega
      clear hc1 hc2 e1 e2 hxk
      go_wp2
      go_quiet (fail)
      go_wp2
      go_roundw
      case rel => exact ⟨k + 1, by omega, by go_num, below_drewN hB _⟩
      case measure => simp [intOf]; omega
    · go_wp2
      go_ret
      exact ⟨rfl, hB⟩
/-- EVERY TEXT IS ONE OF CHARACTERS, OR HAS A FIRST BAD PLACE. -/
theorem text_cases (s : ByteArray) : (∃ xs, allChar xs ∧ s.data.toList = bytes xs ∧ badAt s.data.toList s.size 0 = -1) ∨ 0 ≤ badAt s.data.toList s.size 0 := by
  rcases badAt_cases s.data.toList s.size 0 with h | h
  · obtain ⟨xs, hx, he⟩ := none_bad s.size s.data.toList 0 (by simp) h
    exact .inl ⟨xs, hx, by simpa using he, h⟩
  · exact .inr h
theorem runesBad_good (s : ByteArray) (xs : List Int) (hx : allChar xs) (hsx : s.data.toList = bytes xs) (hs : s.size ≤ 1048576) (w : World) :
    Calls Try.prog 5 #[.string s] w fun e w' => e = .returned (.bool true) ∧ Below w.heap.size w w' := by
  have hs' : s.size ≤ maxLen := by unfold maxLen; omega
  have hsl : s.size = (bytes xs).length := by rw [← hsx]; rfl
  have hcl := count_le xs hx
  have hlen : xs.length ≤ 1048576 := by omega
  have ha := fun w => all_good s xs hx hsx hs w
  have hra := fun w => rall_good s xs hx hsx hs w
  clear hsx hsl hcl
  go_enter Try.func5, Try.ntmps5
  go_wp2_with (first
    | (go_at_call 21; refine (ha _).mono ?_; rintro e w1 ⟨⟨v1, rfl, o1⟩, hA⟩; have r1 := reads_of o1; clear o1)
    | (go_at_call 22; refine (hra _).mono ?_; rintro e w2 ⟨⟨v2, rfl, o2⟩, hB⟩; have r2 := reads_of o2; replace r1 := reads_below r1 hB; replace hA := below_chain hA hB; clear o2 hB)
    | (go_at_call 17; refine (fixed1_any _).mono ?_; rintro e w3 ⟨rfl, hB⟩; replace r1 := reads_below r1 hB; replace r2 := reads_below r2 hB; replace hA := below_chain hA hB; clear hB)
    | (go_at_call 23; refine (bad_any s _ hs').mono ?_; rintro e w4 ⟨rfl, hB⟩; replace r1 := reads_below r1 hB; replace r2 := reads_below r2 hB; replace hA := below_chain hA hB; clear hB)
    | (go_at_call 24; refine (rbad_any s hs' _).mono ?_; rintro e w5 ⟨rfl, hB⟩; replace r1 := reads_below r1 hB; replace r2 := reads_below r2 hB; replace hA := below_chain hA hB; clear hB)
    | (go_at_call 25; refine (same_yes _ _ _ xs r1 r2 hx hlen).mono ?_; rintro e w6 ⟨rfl, hB⟩; replace hA := below_chain hA hB; clear hB))
  go_ret
  exact ⟨rfl, hA⟩
theorem runesBad_bad (s : ByteArray) (hbad : 0 ≤ badAt s.data.toList s.size 0) (hs : s.size ≤ 1048576) (w : World) :
    Calls Try.prog 5 #[.string s] w fun e w' => e = .returned (.bool true) ∧ Below w.heap.size w w' := by
  have hs' : s.size ≤ maxLen := by unfold maxLen; omega
  have ha := fun w => all_bad s hs hbad w
  have hra := fun w => rall_bad s hs hbad w
  have r1 : ∀ w, Reads .i32 w (.slice none 0 0) [] := fun w => ⟨none, 0, rfl, fun k x hk => by simp at hk⟩
  have r2 : ∀ w, Reads .i64 w (.slice none 0 0) [] := fun w => ⟨none, 0, rfl, fun k x hk => by simp at hk⟩
  clear hbad
  have hA : Below w.heap.size w w := Below.refl _ _
  go_enter Try.func5, Try.ntmps5
  go_wp2_with (first
    | (go_at_call 21; refine (ha _).mono ?_; rintro e w1 ⟨rfl, hB⟩; replace hA := below_chain hA hB; clear hB)
    | (go_at_call 22; refine (hra _).mono ?_; rintro e w2 ⟨rfl, hB⟩; replace hA := below_chain hA hB; clear hB)
    | (go_at_call 17; refine (fixed1_any _).mono ?_; rintro e w3 ⟨rfl, hB⟩; replace hA := below_chain hA hB; clear hB)
    | (go_at_call 23; refine (bad_any s _ hs').mono ?_; rintro e w4 ⟨rfl, hB⟩; replace hA := below_chain hA hB; clear hB)
    | (go_at_call 24; refine (rbad_any s hs' _).mono ?_; rintro e w5 ⟨rfl, hB⟩; replace hA := below_chain hA hB; clear hB)
    | (go_at_call 25; refine (same_yes _ _ _ [] (r1 _) (r2 _) (fun _ h => by simp at h) (by simp)).mono ?_; rintro e w6 ⟨rfl, hB⟩; replace hA := below_chain hA hB; clear hB))
  go_ret
  exact ⟨rfl, hA⟩
theorem runesBad_walk (s : ByteArray) (_w0 : s.size ≤ maxLen) (hs : s.size ≤ 1048576) (w : World) :
    Calls Try.prog 5 #[.string s] w fun e w' => e = .returned (.bool true) ∧ Below w.heap.size w w' := by
  rcases text_cases s with ⟨xs, hx, he, _⟩ | hb
  · exact runesBad_good s xs hx he hs w
  · exact runesBad_bad s hb hs w
end Go.Proofs.Ytmlaefdfpekhcaa
