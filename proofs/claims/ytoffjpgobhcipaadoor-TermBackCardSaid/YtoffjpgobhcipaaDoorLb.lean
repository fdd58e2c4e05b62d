/-
  Layer 11 (seat .D): the law TermBack.
-/
import Derived.Test.YtoffjpgobhcipaaDoorLa
namespace Go.Proofs.YtoffjpgobhcipaaDoor.Trm
open Go.ChangeShapes Go.WideShapes Go.ChangeAt Go.RowKit

/-- Show, as a text and an error -/
theorem show_ans (l : List Pt) (n : Nat) (_hln : l.length = n) (hn : n ≤ 4398046511104) (hW : WordsFit l) (hK : KindsFit l) : ∃ (X : List UInt8) (c : Int), ((c = 0 ∧ showT l X ∧ X.length ≤ 1048576) ∨ (c ≠ 0)) ∧ ∀ w a cap, Parts w a n l → Tab w → Calls Tryd.prog 6 #[.slice a n cap] w fun e w' => e = .returned (.tuple #[.string ⟨X.toArray⟩, .int .i64 c]) ∧ Below w.heap.size w w' := by
  cases hq : wellB (kidsP l) with
  | false =>
    refine ⟨[], 8, .inr (by decide), fun w a cap h1 _ => ?_⟩
    refine (show_no w a n cap l h1 hn hq).mono ?_
    rintro e w' ⟨⟨X, c, rfl, h, _⟩, hB⟩
    obtain ⟨rfl, rfl⟩ := h hq
    exact ⟨rfl, hB⟩
  | true =>
    obtain ⟨T, hT⟩ := show_ex hq
    by_cases hl : T.length ≤ 1048576
    · refine ⟨T, 0, .inl ⟨rfl, hT, hl⟩, fun w a cap h1 h2 => ?_⟩
      refine (show_yes w a n cap l h1 hn hW hK h2 T hT).mono ?_
      rintro e w' ⟨⟨X, c, rfl, _, h⟩, hB⟩
      obtain ⟨rfl, rfl⟩ := (h T hT).1 hl
      exact ⟨rfl, hB⟩
    · refine ⟨[], 2, .inr (by decide), fun w a cap h1 h2 => ?_⟩
      refine (show_yes w a n cap l h1 hn hW hK h2 T hT).mono ?_
      rintro e w' ⟨⟨X, c, rfl, _, h⟩, hB⟩
      obtain ⟨rfl, rfl⟩ := (h T hT).2 (by omega)
      exact ⟨rfl, hB⟩
/-- the second half: a text is read, and what is read is shown -/
def BackOk (s : ByteArray) : Prop := ∃ (n : Nat) (L : List Pt) (c : Int), L.length = n ∧ (∀ w, Errs w → Calls Tryd.prog 7 #[.string s] w fun e w' => (∃ a cap, e = .returned (.tuple #[.slice a n cap, .int .i64 c]) ∧ MineP w' w.heap.size (.slice a n cap) L) ∧ Below w.heap.size w w') ∧
  ((c ≠ 0 ∧ n = 0) ∨ (c = 0 ∧ n ≤ 1048576 ∧ (∀ w a cap, Parts w a n L → Tab w → Calls Tryd.prog 6 #[.slice a n cap] w fun e w' => e = .returned (.tuple #[.string s, .int .i64 0]) ∧ Below w.heap.size w w') ∧ ∀ w a cap, Parts w a n L → Calls Tryd.prog 10 #[.slice a n cap] w fun e w' => e = .returned (.bool true) ∧ Below w.heap.size w w'))
theorem back_ok (s : ByteArray) (hs : s.size ≤ 140737488351232) : BackOk s := by
  refine ⟨(readAns s.data.toList).1.length, (readAns s.data.toList).1, (readAns s.data.toList).2, rfl, fun w hE => read_ans s hs w hE, ?_⟩
  by_cases hc : (readAns s.data.toList).2 = 0
  · right
    obtain ⟨h1, h2, h3, h4, _⟩ := ans_back hc
    refine ⟨hc, h4, fun w a cap hP hT => ?_, fun w a cap hP => ?_⟩
    · refine (show_yes w a _ cap _ hP (by omega) (fun x hx => by have := (h3 x hx).2; omega) (fun x hx => (h3 x hx).1) hT _ h2).mono ?_
      rintro e w' ⟨⟨X, c, rfl, _, h⟩, hB⟩
      obtain ⟨rfl, rfl⟩ := (h _ h2).1 h1
      exact ⟨rfl, hB⟩
    · have h := well_any w a _ cap _ hP (by omega)
      rw [show_well h2] at h
      exact h
  · left
    exact ⟨hc, by rw [ans_err hc]; rfl⟩
set_option maxRecDepth 100000 in
set_option maxHeartbeats 8000000 in
theorem lawback_any (w : World) (a : Option Addr) (n cap : Nat) (l : List Pt) (hl : Parts w a n l) (hn : n ≤ 4398046511104) (hW : WordsFit l) (hK : KindsFit l) (s : ByteArray) (hs : s.size ≤ 140737488351232) (hTab : Tab w) (hE : Errs w) :
    Calls Tryd.prog 3 #[.slice a n cap, .string s] w fun e w' => e = .returned (.bool true) ∧ Below w.heap.size w w' := by
  have HT := Lib.hid hTab
  have HE := Lib.hid hE
  have HL := Lib.hid hl
  obtain ⟨X, c, hc, hsh⟩ := show_ans l n hl.1 hn hW hK
  obtain ⟨m, L, f, hLm, hrd, hb⟩ := back_ok s hs
  have HSH := Lib.hid hsh
  have HRD := Lib.hid hrd
  have hst : (s.toList == s.toList) = true := by simp
  have hln := hl.1
  clear hTab hE hl hsh hrd
  rcases hc with ⟨rfl, hX, hXl⟩ | hc0
  · obtain ⟨S, hS⟩ : ∃ S : ByteArray, S = ⟨X.toArray⟩ := ⟨_, rfl⟩
    have hrx : Hid (∀ w, Errs w → Calls Tryd.prog 7 #[.string S] w fun e w' => (∃ a cap, e = .returned (.tuple #[.slice a n cap, .int .i64 0]) ∧ MineP w' w.heap.size (.slice a n cap) l) ∧ Below w.heap.size w w') := Lib.hid (fun w hE => by
      have h := read_ans S (by rw [hS]; show X.length ≤ _; omega) w hE
      have h2 : readAns S.data.toList = (l, 0) := by rw [hS]; exact ans_show hK hX hXl
      rw [h2] at h
      dsimp only at h
      rw [hln] at h
      exact h)
    have HSH2 := HSH.out
    rw [← hS] at HSH2
    clear hX hXl hS HSH
    rcases hb with ⟨hf0, rfl⟩ | ⟨rfl, hm, hs6, hw10⟩
    · have d1 : (f != 0) = true := by simpa using hf0
      clear hf0
      go_enter Tryd.func3, Tryd.ntmps3
      go_wp2_with (first
        | (go_at_call 5; refine (fixed_any _ HT.out HE.out).mono ?_; rintro e w2 ⟨rfl, hB2⟩; have HB2 := Lib.hid hB2; clear hB2)
        | (go_at_call 6; refine (HSH2 _ _ _ (parts_below HL.out HB2.out) (tab_below HT.out HB2.out)).mono ?_; rintro e w3 ⟨rfl, hB3⟩; have HB3 := Lib.hid (HB2.out.trans (hB3.mono HB2.out.size)); clear hB3)
        | (go_at_call 7; (with_reducible refine (hrx.out _ (errs_below HE.out HB3.out)).mono ?_); rintro e w4 ⟨⟨a4, c4, rfl, hM4⟩, hB4⟩; have HB4 := Lib.hid (HB3.out.trans (hB4.mono HB3.out.size)); have hP4 := parts_of hM4; clear hM4 hB4)
        | (go_at_call 8; refine (Same_any _ _ _ _ _ _ _ hP4 (parts_below HL.out HB4.out) hn).mono ?_; rintro e w5 ⟨rfl, hB5⟩; have HB5 := Lib.hid (HB4.out.trans (hB5.mono HB4.out.size)); have hP5 := parts_below hP4 hB5; clear hB5)
        | (go_at_call 9; refine (same_any _ _ _ _ _ _ _ hP5 (parts_below HL.out HB5.out) hn).mono ?_; rintro e w6 ⟨rfl, hB6⟩; have HB6 := Lib.hid (HB5.out.trans (hB6.mono HB5.out.size)); clear hB6)
        | (go_at_call 7; (with_reducible refine (HRD.out _ (errs_below HE.out HB6.out)).mono ?_); rintro e w7 ⟨⟨a7, c7, rfl, hM7⟩, hB7⟩; have HB7 := Lib.hid (HB6.out.trans (hB7.mono HB6.out.size)); clear hM7 hB7))
      go_ret
      exact ⟨rfl, HB7.out⟩
    · go_enter Tryd.func3, Tryd.ntmps3
      go_wp2_with (first
        | (go_at_call 5; refine (fixed_any _ HT.out HE.out).mono ?_; rintro e w2 ⟨rfl, hB2⟩; have HB2 := Lib.hid hB2; clear hB2)
        | (go_at_call 6; (with_reducible refine (HSH2 _ _ _ (parts_below HL.out HB2.out) (tab_below HT.out HB2.out)).mono ?_); rintro e w3 ⟨rfl, hB3⟩; have HB3 := Lib.hid (HB2.out.trans (hB3.mono HB2.out.size)); clear hB3)
        | (go_at_call 7; (with_reducible refine (hrx.out _ (errs_below HE.out HB3.out)).mono ?_); rintro e w4 ⟨⟨a4, c4, rfl, hM4⟩, hB4⟩; have HB4 := Lib.hid (HB3.out.trans (hB4.mono HB3.out.size)); have hP4 := parts_of hM4; clear hM4 hB4)
        | (go_at_call 8; refine (Same_any _ _ _ _ _ _ _ hP4 (parts_below HL.out HB4.out) hn).mono ?_; rintro e w5 ⟨rfl, hB5⟩; have HB5 := Lib.hid (HB4.out.trans (hB5.mono HB4.out.size)); have hP5 := parts_below hP4 hB5; clear hB5)
        | (go_at_call 9; refine (same_any _ _ _ _ _ _ _ hP5 (parts_below HL.out HB5.out) hn).mono ?_; rintro e w6 ⟨rfl, hB6⟩; have HB6 := Lib.hid (HB5.out.trans (hB6.mono HB5.out.size)); clear hB6)
        | (go_at_call 7; (with_reducible refine (HRD.out _ (errs_below HE.out HB6.out)).mono ?_); rintro e w7 ⟨⟨a7, c7, rfl, hM7⟩, hB7⟩; have HB7 := Lib.hid (HB6.out.trans (hB7.mono HB6.out.size)); have hP7 := parts_of hM7; clear hM7 hB7)
        | (go_at_call 6; refine (hs6 _ _ _ hP7 (tab_below HT.out HB7.out)).mono ?_; rintro e w8 ⟨rfl, hB8⟩; have HB8 := Lib.hid (HB7.out.trans (hB8.mono HB7.out.size)); have hP8 := parts_below hP7 hB8; clear hB8)
        | (go_at_call 10; refine (hw10 _ _ _ hP8).mono ?_; rintro e w9 ⟨rfl, hB9⟩; have HB9 := Lib.hid (HB8.out.trans (hB9.mono HB8.out.size)); clear hB9))
      go_ret
      exact ⟨by simp, HB9.out⟩
  · have d0 : (c == 0) = false := by simpa using hc0
    clear hc0
    have HSH2 := HSH.out
    rcases hb with ⟨hf0, rfl⟩ | ⟨rfl, hm, hs6, hw10⟩
    · have d1 : (f != 0) = true := by simpa using hf0
      clear hf0
      go_enter Tryd.func3, Tryd.ntmps3
      go_wp2_with (first
        | (go_at_call 5; refine (fixed_any _ HT.out HE.out).mono ?_; rintro e w2 ⟨rfl, hB2⟩; have HB2 := Lib.hid hB2; clear hB2)
        | (go_at_call 6; refine (HSH2 _ _ _ (parts_below HL.out HB2.out) (tab_below HT.out HB2.out)).mono ?_; rintro e w6 ⟨rfl, hB3⟩; have HB6 := Lib.hid (HB2.out.trans (hB3.mono HB2.out.size)); clear hB3)
        | (go_at_call 7; (with_reducible refine (HRD.out _ (errs_below HE.out HB6.out)).mono ?_); rintro e w7 ⟨⟨a7, c7, rfl, hM7⟩, hB7⟩; have HB7 := Lib.hid (HB6.out.trans (hB7.mono HB6.out.size)); clear hM7 hB7))
      go_ret
      exact ⟨rfl, HB7.out⟩
    · go_enter Tryd.func3, Tryd.ntmps3
      go_wp2_with (first
        | (go_at_call 5; refine (fixed_any _ HT.out HE.out).mono ?_; rintro e w2 ⟨rfl, hB2⟩; have HB2 := Lib.hid hB2; clear hB2)
        | (go_at_call 6; (with_reducible refine (HSH2 _ _ _ (parts_below HL.out HB2.out) (tab_below HT.out HB2.out)).mono ?_); rintro e w6 ⟨rfl, hB3⟩; have HB6 := Lib.hid (HB2.out.trans (hB3.mono HB2.out.size)); clear hB3)
        | (go_at_call 7; (with_reducible refine (HRD.out _ (errs_below HE.out HB6.out)).mono ?_); rintro e w7 ⟨⟨a7, c7, rfl, hM7⟩, hB7⟩; have HB7 := Lib.hid (HB6.out.trans (hB7.mono HB6.out.size)); have hP7 := parts_of hM7; clear hM7 hB7)
        | (go_at_call 6; refine (hs6 _ _ _ hP7 (tab_below HT.out HB7.out)).mono ?_; rintro e w8 ⟨rfl, hB8⟩; have HB8 := Lib.hid (HB7.out.trans (hB8.mono HB7.out.size)); have hP8 := parts_below hP7 hB8; clear hB8)
        | (go_at_call 10; refine (hw10 _ _ _ hP8).mono ?_; rintro e w9 ⟨rfl, hB9⟩; have HB9 := Lib.hid (HB8.out.trans (hB9.mono HB8.out.size)); clear hB9))
      go_ret
      exact ⟨by simp, HB9.out⟩
end Go.Proofs.YtoffjpgobhcipaaDoor.Trm
