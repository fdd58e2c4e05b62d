/-
  Layer 11 (seat .D): slices.Equal of lists of parts, term.Same; what a text reads as.
-/
import Derived.Test.YtoffjpgobhcipaaDoorKf
import Derived.Test.YtoffjpgobhcipaaDoorJb
namespace Go.Proofs.YtoffjpgobhcipaaDoor.Trm
open Go.ChangeShapes Go.WideShapes Go.ChangeAt Go.RowKit

set_option maxHeartbeats 8000000 in
theorem equal_any (w : World) (a b : Option Addr) (n ca cb : Nat) (l : List Pt) (hl : Parts w a n l) (hq : Parts w b n l) (hn : n ≤ 4398046511104) :
    Calls Tryd.prog 24 #[.slice a n ca, .slice b n cb] w fun e w' => e = .returned (.bool true) ∧ Below w.heap.size w w' := by
  have q1 : ((n : Int) != n) = false := by simp
  have HL := Lib.hid hl
  have HQ := Lib.hid hq
  have hln := hl.1
  clear hl hq
  go_enter Tryd.func24, Tryd.ntmps24
  go_wp2
  go_loopw [5, 13] (fun _ t wr => ∃ k : Nat, k ≤ n ∧ t = .int .i64 k ∧ Hid (Below w.heap.size w wr)) (fun _ t _ => n - (intOf t).toNat)
  case atStart => exact ⟨0, Nat.zero_le _, rfl, Lib.hid (Below.refl _ _)⟩
  case round =>
    obtain ⟨k, hk, rfl, HB⟩ := hrel
    by_cases hlt : k < n
    · have hx : l[k]? = some (l.getD k pt0) := by rw [List.getD_eq_getElem?_getD, List.getElem?_eq_getElem (by rw [hln]; exact hlt)]; rfl
      obtain ⟨g, off, rfl, c0, c1, c2⟩ := (parts_below HL.out HB.out).2 k _ hx
      obtain ⟨g', off', rfl, d0, d1, d2⟩ := (parts_below HQ.out HB.out).2 k _ hx
      generalize l.getD k pt0 = x at c0 c1 c2 d0 d1 d2 hx
      have j0 : (0 : Int) ≤ k := by omega
      have j1 : (k : Int) < n := by omega
      clear hx
      have hne := fun w => part_neq x x w
      have hgd := fun u v w => part_guard u v (ptV x) (ptV x) w
      have hE := (pt_eq x x).2 rfl
      rw [hE] at hne
      clear hE
      unfold ptV at hne hgd
      go_wp2
      first | go_quiet (fail) | fail
      go_wp2
      go_roundw
      case rel => exact ⟨k + 1, hlt, by go_num, Lib.hid (below_drewN HB.out _)⟩
      case measure => simp [intOf]; omega
    · obtain rfl : k = n := by omega
      go_wp2
      go_ret
      exact ⟨rfl, HB.out⟩
theorem Same_any (w : World) (a b : Option Addr) (n ca cb : Nat) (l : List Pt) (hl : Parts w a n l) (hq : Parts w b n l) (hn : n ≤ 4398046511104) :
    Calls Tryd.prog 8 #[.slice a n ca, .slice b n cb] w fun e w' => e = .returned (.bool true) ∧ Below w.heap.size w w' := by
  have h := equal_any w a b n ca cb l hl hq hn
  clear hl hq
  go_enter Tryd.func8, Tryd.ntmps8
  go_wp2_with (go_at_call 24; refine h.mono ?_; rintro e w2 ⟨rfl, hB2⟩)
  go_ret
  exact ⟨rfl, hB2⟩
theorem same_any (w : World) (a b : Option Addr) (n ca cb : Nat) (l : List Pt) (hl : Parts w a n l) (hq : Parts w b n l) (hn : n ≤ 4398046511104) :
    Calls Tryd.prog 9 #[.slice a n ca, .slice b n cb] w fun e w' => e = .returned (.bool true) ∧ Below w.heap.size w w' := by
  refine (rsame_any w a b n n ca cb l l hl hq hn).mono ?_
  rintro e w' ⟨⟨r, rfl, h⟩, hB⟩
  exact ⟨by rw [h.2 rfl], hB⟩
noncomputable def readAns (s : List UInt8) : List Pt × Int := if 1048576 < s.length then ([], 2) else (match readP s with | none => ([], 9) | some L => (L, 0))
theorem readIs_ans {B : Nat} {s : List UInt8} {e : Ending} {w : World} (h : ReadIs B s e w) : ∃ a cap, e = .returned (.tuple #[.slice a (readAns s).1.length cap, .int .i64 (readAns s).2]) ∧ MineP w B (.slice a (readAns s).1.length cap) (readAns s).1 := by
  obtain ⟨v, c, l, rfl, hM, h1, h2⟩ := h
  have hx : l = (readAns s).1 ∧ c = (readAns s).2 := by
    unfold readAns
    by_cases hl : 1048576 < s.length
    · rw [if_pos hl]
      exact h1 hl
    · rw [if_neg hl]
      obtain ⟨h3, h4⟩ := h2 (by omega)
      cases hr : readP s with
      | none => exact h3 hr
      | some L => exact h4 L hr
  obtain ⟨rfl, rfl⟩ := hx
  obtain ⟨a, cap, rfl, _⟩ := mineP_parts hM
  exact ⟨a, cap, rfl, hM⟩
theorem read_ans (s : ByteArray) (hs : s.size ≤ 140737488351232) (w : World) (hE : Errs w) :
    Calls Tryd.prog 7 #[.string s] w fun e w' => (∃ a cap, e = .returned (.tuple #[.slice a (readAns s.data.toList).1.length cap, .int .i64 (readAns s.data.toList).2]) ∧ MineP w' w.heap.size (.slice a (readAns s.data.toList).1.length cap) (readAns s.data.toList).1) ∧ Below w.heap.size w w' := by
  by_cases hl : 1048576 < s.size
  · exact (read_long s hs hl w).mono (fun e w' ⟨h1, h2⟩ => ⟨readIs_ans h1, h2⟩)
  · exact (read_any s (by omega) w hE).mono (fun e w' ⟨h1, h2⟩ => ⟨readIs_ans h1, h2⟩)
theorem row_word {l : List Pt} {i n e : Nat} {s : List UInt8} (h : RowTx l i n s e) : ∀ j x, i ≤ j → j < e → l[j]? = some x → x.word.size ≤ s.length := by
  induction h with
  | zero i => intro j x h1 h2; omega
  | succ hp h0 h1 h2 ih1 ih2 =>
    rename_i i n p s e s' e'
    intro j x hj1 hj2 hx
    simp only [List.length_cons, List.length_append]
    by_cases hji : j = i
    · subst hji
      rw [hp] at hx
      injection hx with hx
      subst hx
      have := (part_len p).1
      omega
    · by_cases hje : j < e
      · have := ih1 j x (by omega) hje hx
        omega
      · have := ih2 j x (by omega) hj2 hx
        omega
/-- a text that reads as a list is what the list shows -/
theorem ans_back {s : List UInt8} (h : (readAns s).2 = 0) : s.length ≤ 1048576 ∧ showT (readAns s).1 s ∧ (∀ x ∈ (readAns s).1, x.kind ≤ 255 ∧ x.word.size ≤ 1048577) ∧ (readAns s).1.length ≤ 1048576 ∧ (readAns s).1 ≠ [] := by
  unfold readAns at h ⊢
  by_cases hl : 1048576 < s.length
  · rw [if_pos hl] at h; cases h
  · rw [if_neg hl] at h ⊢
    cases hr : readP s with
    | none => rw [hr] at h; cases h
    | some L =>
      unfold readP at hr
      obtain ⟨y, hy, hr⟩ := Option.bind_eq_some_iff.1 hr
      split at hr
      · rename_i h2
        injection hr with hr
        subst hr
        obtain ⟨L, t⟩ := y
        dsimp only at h2
        subst h2
        obtain ⟨⟨T, h3, h4⟩, h5⟩ := tree_text hy
        rw [List.append_nil] at h3
        subst h3
        obtain ⟨h6, h7, _⟩ := tree_nodes hy
        refine ⟨by omega, h4, fun x hx => ⟨h5 x hx, ?_⟩, by simp only at h6 ⊢; omega, h7⟩
        obtain ⟨j, hj⟩ := List.mem_iff_getElem?.1 hx
        have h8 := row_word h4 j x (Nat.zero_le _) (List.getElem?_eq_some_iff.1 hj).1 hj
        rw [List.length_cons] at h8
        omega
      · cases hr
theorem ans_err {s : List UInt8} (h : (readAns s).2 ≠ 0) : (readAns s).1 = [] := by
  unfold readAns at h ⊢
  by_cases hl : 1048576 < s.length
  · rw [if_pos hl]
  · rw [if_neg hl] at h ⊢
    cases hr : readP s with
    | none => rfl
    | some L => rw [hr] at h; exact absurd rfl h
/-- what a list shows reads as the list -/
theorem ans_show {l : List Pt} {T : List UInt8} (hK : ∀ x ∈ l, x.kind ≤ 255) (hT : showT l T) (hl : T.length ≤ 1048576) : readAns T = (l, 0) := by
  have h := tree_show hK hT []
  rw [List.append_nil] at h
  unfold readAns readP
  rw [if_neg (by omega), h]
  rfl
end Go.Proofs.YtoffjpgobhcipaaDoor.Trm
