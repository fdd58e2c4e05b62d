/-
  The document's Name, and the statement ClassNames walked.
-/
import Derived.Test.YtmlaefdfpekhcaaU
import Derived.Test.YtmlaefdfpekhcaaN
import Derived.Test.YtmlaefdfpekhcaaK
namespace Go.Proofs.Ytmlaefdfpekhcaa
open Go.ChangeShapes Go.WideShapes Go.ChangeAt Go.RowKit

theorem letter_ref {r : Int} {v : Bool} (h : inside letters r = v) (w : World) : Calls Try.prog 29 #[.int .i64 r] w fun e w' => e = .returned (.bool v) ∧ Below w.heap.size w w' := by
  have := rletter_any r w; rw [h] at this; exact this
theorem digit_ref {r : Int} {v : Bool} (h : inside digits r = v) (w : World) : Calls Try.prog 31 #[.int .i64 r] w fun e w' => e = .returned (.bool v) ∧ Below w.heap.size w w' := by
  have := rdigit_any r w; rw [h] at this; exact this

theorem rname_bad (s : ByteArray) (hs : s.size ≤ 1048576) (hbad : 0 ≤ badAt s.data.toList s.size 0) (w : World) :
    Calls Try.prog 37 #[.string s] w fun e w' => e = .returned (.bool false) ∧ Below w.heap.size w w' := by
  have hra := fun w => rall_bad s hs hbad w
  clear hbad
  have hA : Below w.heap.size w w := Below.refl _ _
  go_enter Try.func37, Try.ntmps37
  go_wp2_with (first
    | (go_at_call 22; refine (hra _).mono ?_; rintro e w2 ⟨rfl, hB⟩; replace hA := below_chain hA hB; clear hB))
  go_ret
  exact ⟨rfl, hA⟩
theorem rname_nil (s : ByteArray) (hs : s.size ≤ 1048576) (hsx : s.data.toList = bytes []) (w : World) :
    Calls Try.prog 37 #[.string s] w fun e w' => e = .returned (.bool false) ∧ Below w.heap.size w w' := by
  have hra := fun w => rall_good s [] (fun _ h => by simp at h) hsx hs w
  clear hsx
  have hA : Below w.heap.size w w := Below.refl _ _
  go_enter Try.func37, Try.ntmps37
  go_wp2_with (first
    | (go_at_call 22; refine (hra _).mono ?_; rintro e w2 ⟨⟨v, rfl, o⟩, hB⟩; obtain ⟨a, cap, rfl, _⟩ := reads_of o; replace hA := below_chain hA hB; clear hB o))
  go_ret
  exact ⟨rfl, hA⟩
theorem rname_word (s : ByteArray) (x : Int) (xs : List Int) (hx : allChar (x :: xs)) (hsx : s.data.toList = bytes (x :: xs)) (hs : s.size ≤ 1048576) (hw : isWord s.data.toList = true) (hlen : xs.length + 1 ≤ 1048576) (w : World) :
    Calls Try.prog 37 #[.string s] w fun e w' => e = .returned (.bool false) ∧ Below w.heap.size w w' := by
  have hra := fun w => rall_good s (x :: xs) hx hsx hs w
  have HW := Lib.hid hw
  clear hsx hw
  have hA : Below w.heap.size w w := Below.refl _ _
  go_enter Try.func37, Try.ntmps37
  go_wp2_with (first
    | (go_at_call 22; refine (hra _).mono ?_; rintro e w2 ⟨⟨v, rfl, o⟩, hB⟩; obtain ⟨a, cap, rfl, _⟩ := reads_of o; replace hA := below_chain hA hB; clear hB o)
    | (go_at_call 39; refine (rword_any s _).mono ?_; rintro e w3 ⟨rfl, hB⟩; rw [HW.out]; replace hA := below_chain hA hB; clear hB))
  go_ret
  exact ⟨rfl, hA⟩
theorem reads_first {K : IntKind} {w : World} {v : Value} {x : Int} {xs : List Int} (h : Reads K w v (x :: xs)) : ∃ g cap, v = .slice (some ⟨g, 0, none⟩) (xs.length + 1) cap ∧ ∀ k y, (x :: xs)[k]? = some y → w.cell? ⟨g, k, none⟩ = some (.int K y) := by
  obtain ⟨a, cap, rfl, hc⟩ := h
  obtain ⟨g, rfl, _⟩ := hc 0 x (by simp)
  refine ⟨g, cap, rfl, fun k y hk => ?_⟩
  obtain ⟨g', hg, hcell⟩ := hc k y hk
  simp only [Option.some.injEq, Addr.mk.injEq, and_true] at hg
  subst hg
  exact hcell
theorem rname_first (s : ByteArray) (x : Int) (xs : List Int) (hx : allChar (x :: xs)) (hsx : s.data.toList = bytes (x :: xs)) (hs : s.size ≤ 1048576) (hw : isWord s.data.toList = false) (hlen : xs.length + 1 ≤ 1048576) (hl : inside letters x = false) (w : World) :
    Calls Try.prog 37 #[.string s] w fun e w' => e = .returned (.bool false) ∧ Below w.heap.size w w' := by
  have hra := fun w => rall_good s (x :: xs) hx hsx hs w
  have hL := fun w => letter_ref hl w
  have HW := Lib.hid hw
  clear hsx hw hl
  have hA : Below w.heap.size w w := Below.refl _ _
  go_enter Try.func37, Try.ntmps37
  go_wp2_with (first
    | (go_at_call 22; refine (hra _).mono ?_; rintro e w2 ⟨⟨v, rfl, o⟩, hB⟩; obtain ⟨g, cap, rfl, hc⟩ := reads_first (reads_of o); replace hA := below_chain hA hB; have c0 := hc 0 x rfl; clear hB o)
    | (go_at_call 39; refine (rword_any s _).mono ?_; rintro e w3 ⟨rfl, hB⟩; rw [HW.out]; replace hA := below_chain hA hB; have c1 := (hB.cell (p := ⟨g, 0, none⟩) (cell_lt c0)).trans c0; clear hB)
    | (go_at_call 29; (with_reducible refine (hL _).mono ?_); rintro e w4 ⟨rfl, hB⟩; replace hA := below_chain hA hB; clear hB))
  go_ret
  exact ⟨rfl, hA⟩
/-- a letter or a digit -/
def okc (r : Int) : Bool := inside letters r || inside digits r
theorem all_at (l : List Int) (k : Nat) (y : Int) (h : l[k]? = some y) : (l.drop k).all okc = (okc y && (l.drop (k + 1)).all okc) := by
  obtain ⟨hk, he⟩ := List.getElem?_eq_some_iff.mp h
  rw [List.drop_eq_getElem_cons hk, he, List.all_cons]
set_option maxHeartbeats 2000000 in
theorem rname_loop (s : ByteArray) (x : Int) (xs l : List Int) (hxl : x :: xs = l) (hx : allChar l) (hsx : s.data.toList = bytes l) (hs : s.size ≤ 1048576) (hw : isWord s.data.toList = false) (hlen : l.length ≤ 1048576) (hl : inside letters x = true) (w : World) :
    Calls Try.prog 37 #[.string s] w fun e w' => e = .returned (.bool (l.all okc)) ∧ Below w.heap.size w w' := by
  have hra := fun w => rall_good s l hx hsx hs w
  have hL := fun w => letter_ref hl w
  have HW := Lib.hid hw
  have HXL := Lib.hid hxl
  have hln : xs.length + 1 = l.length := by rw [← hxl]; rfl
  obtain ⟨n, hn⟩ : ∃ n, n = l.length := ⟨_, rfl⟩
  rw [← hn] at hln hlen
  have HLN := Lib.hid hln
  have HNL := Lib.hid hn
  have hl0 : ((n : Int) == 0) = false := by rw [beq_eq_false_iff_ne]; omega
  have hlp : 0 < n := by omega
  clear hsx hw hl hxl hln hn
  have hA : Below w.heap.size w w := Below.refl _ _
  go_enter Try.func37, Try.ntmps37
  go_wp2_with (first
    | (go_at_call 22; refine (hra _).mono ?_; rintro e w2 ⟨⟨v, rfl, o⟩, hB⟩; have rd := reads_of o; rw [← HXL.out] at rd; obtain ⟨g, cap, rfl, hc⟩ := reads_first rd; rw [HLN.out]; replace hA := below_chain hA hB; have c0 := hc 0 x rfl; clear hB o rd)
    | (go_at_call 39; refine (rword_any s _).mono ?_; rintro e w3 ⟨rfl, hB⟩; rw [HW.out]; replace hA := below_chain hA hB; have c1 := (hB.cell (p := ⟨g, 0, none⟩) (cell_lt c0)).trans c0; have hc3 : ∀ k y, (x :: xs)[k]? = some y → w3.cell? ⟨g, k, none⟩ = some (.int .i64 y) := (fun k y hk => (hB.cell (p := ⟨g, k, none⟩) (cell_lt (hc k y hk))).trans (hc k y hk)); clear hB hc)
    | (go_at_call 29; (with_reducible refine (hL _).mono ?_); rintro e w4 ⟨rfl, hB⟩; replace hA := below_chain hA hB; have hc4 : ∀ k y, (x :: xs)[k]? = some y → w4.cell? ⟨g, k, none⟩ = some (.int .i64 y) := (fun k y hk => (hB.cell (p := ⟨g, k, none⟩) (cell_lt (hc3 k y hk))).trans (hc3 k y hk)); clear hB hc3 c0 c1))
  go_loopw [5] (fun i wr => ∃ k : Nat, k ≤ n ∧ i = .int .i64 k ∧ Below w4.heap.size w4 wr ∧ Hid (l.all okc = (l.drop k).all okc)) (fun i _ => n - (intOf i).toNat)
  case atStart => exact ⟨0, Nat.zero_le _, rfl, Below.refl _ _, Lib.hid (by simp)⟩
  case round =>
    obtain ⟨k, hk, rfl, hB, HR⟩ := hrel
    by_cases hlt : k < n
    · obtain ⟨y, hy⟩ : ∃ y, l[k]? = some y := ⟨l[k]'(by have := HNL.out; omega), List.getElem?_eq_getElem (by have := HNL.out; omega)⟩
      have HY := Lib.hid (all_at l k y hy)
      have c4 := hc4 k y (by rw [HXL.out]; exact hy)
      have c := (hB.cell (p := ⟨g, k, none⟩) (cell_lt c4)).trans c4
      clear hy c4 hc4
      have hB0 : Below wr.heap.size wr wr := Below.refl _ _
      cases h1 : inside letters y with
      | true =>
        have L1 := fun w => letter_ref h1 w
        have H1 := Lib.hid h1
        clear h1
        go_wp2_with (first
          | (go_at_call 29; (with_reducible refine (L1 _).mono ?_); rintro e w5 ⟨rfl, hB5⟩))
        go_roundw
        case rel => exact ⟨k + 1, by omega, by go_num, hB.trans (hB5.mono hB.size), Lib.hid (by rw [HR.out, HY.out]; simp [okc, H1.out])⟩
        case measure => simp [intOf]; omega
      | false =>
        have L1 := fun w => letter_ref h1 w
        have H1 := Lib.hid h1
        clear h1
        cases h2 : inside digits y with
        | true =>
          have D1 := fun w => digit_ref h2 w
          have H2 := Lib.hid h2
          clear h2
          go_wp2_with (first
            | (go_at_call 29; (with_reducible refine (L1 _).mono ?_); rintro e w5 ⟨rfl, hB5⟩; have c5 := (hB5.cell (p := ⟨g, k, none⟩) (cell_lt c)).trans c)
            | (go_at_call 31; (with_reducible refine (D1 _).mono ?_); rintro e w6 ⟨rfl, hB6⟩))
          go_roundw
          case rel => exact ⟨k + 1, by omega, by go_num, hB.trans ((below_chain hB5 hB6).mono hB.size), Lib.hid (by rw [HR.out, HY.out]; simp [okc, H2.out])⟩
          case measure => simp [intOf]; omega
        | false =>
          have D1 := fun w => digit_ref h2 w
          have H2 := Lib.hid h2
          clear h2
          go_wp2_with (first
            | (go_at_call 29; (with_reducible refine (L1 _).mono ?_); rintro e w5 ⟨rfl, hB5⟩; have c5 := (hB5.cell (p := ⟨g, k, none⟩) (cell_lt c)).trans c)
            | (go_at_call 31; (with_reducible refine (D1 _).mono ?_); rintro e w6 ⟨rfl, hB6⟩))
          go_ret
          exact ⟨ret_bool (by rw [HR.out, HY.out]; simp [okc, H1.out, H2.out]), hA.trans ((hB.trans ((below_chain hB5 hB6).mono hB.size)).mono hA.size)⟩
    · have hke : k = n := by omega
      subst hke
      go_wp2
      go_ret
      exact ⟨ret_bool (by rw [HR.out, HNL.out, List.drop_length]; rfl), hA.trans (hB.mono hA.size)⟩
theorem names_true : ∀ xs : List Int, namesOk true xs = xs.all okc
  | [] => rfl
  | x :: xs => by rw [namesOk, names_true xs, List.all_cons]; simp [okc]
theorem rname_any (s : ByteArray) (hs : s.size ≤ 1048576) (w : World) :
    Calls Try.prog 37 #[.string s] w fun e w' => e = .returned (.bool (isName s.data.toList)) ∧ Below w.heap.size w w' := by
  rcases text_cases s with ⟨xs, hx, he, _⟩ | hb
  · have hlen : xs.length ≤ 1048576 := by
      have h1 := count_le xs hx
      have h2 : s.size = (bytes xs).length := by rw [← he]; rfl
      omega
    cases xs with
    | nil =>
      have : isName s.data.toList = false := by rw [he]; rfl
      rw [this]
      exact rname_nil s hs he w
    | cons x xs =>
      have hm := name_make (x :: xs) hx (by simp)
      cases hw : isWord s.data.toList with
      | true =>
        have : isName s.data.toList = false := by rw [he, hm, ← he, hw]; rfl
        rw [this]
        exact rname_word s x xs hx he hs hw hlen w
      | false =>
        cases hl : inside letters x with
        | false =>
          have : isName s.data.toList = false := by rw [he, hm, ← he, hw, namesOk, hl]; rfl
          rw [this]
          exact rname_first s x xs hx he hs hw hlen hl w
        | true =>
          have : isName s.data.toList = (x :: xs).all okc := by rw [he, hm, ← he, hw, namesOk, names_true, hl, List.all_cons]; simp [okc, hl]
          rw [this]
          exact rname_loop s x xs _ rfl hx he hs hw hlen hl w
  · have : isName s.data.toList = false := by
      unfold isName
      have h1 : decide (badAt s.data.toList s.data.toList.length 0 < 0) = false := by
        rw [decide_eq_false_iff_not]
        have h2 : s.data.toList.length = s.size := rfl
        rw [h2]; omega
      rw [h1]; simp
    rw [this]
    exact rname_bad s hs hb w
theorem classNames_walk (s : ByteArray) (_w0 : s.size ≤ maxLen) (hs : s.size ≤ 1048576) (w : World) :
    Calls Try.prog 11 #[.string s] w fun e w' => e = .returned (.bool true) ∧ Below w.heap.size w w' := by
  have hA : Below w.heap.size w w := Below.refl _ _
  go_enter Try.func11, Try.ntmps11
  go_wp2_with (first
    | (go_at_call 27; refine (fixed2_any _).mono ?_; rintro e w1 ⟨rfl, hB⟩; replace hA := below_chain hA hB; clear hB)
    | (go_at_call 36; refine (name_any s _ _w0).mono ?_; rintro e w2 ⟨rfl, hB⟩; replace hA := below_chain hA hB; clear hB)
    | (go_at_call 37; refine (rname_any s hs _).mono ?_; rintro e w3 ⟨rfl, hB⟩; replace hA := below_chain hA hB; clear hB)
    | (go_at_call 38; refine (word_any s _).mono ?_; rintro e w4 ⟨rfl, rfl⟩)
    | (go_at_call 39; refine (rword_any s _).mono ?_; rintro e w5 ⟨rfl, hB⟩; replace hA := below_chain hA hB; clear hB))
  go_ret
  exact ⟨rfl, hA⟩
end Go.Proofs.Ytmlaefdfpekhcaa
