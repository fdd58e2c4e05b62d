/-
  Contracts of the document's Bad and All for layer 1.
-/
import Derived.Test.YtmlaefdfpekhcaaS
import Derived.Test.YtmlaefdfpekhcaaD
namespace Go.Proofs.Ytmlaefdfpekhcaa
open Go.ChangeShapes Go.WideShapes Go.ChangeAt Go.RowKit
open Go.Lib (decodeL)

theorem info2 : (Try.prog.info? 2).map (fun i => (i.zero, i.size, i.bytes)) = some (some (.int .i64 0), 1, 8) := by kernel_rfl
set_option maxHeartbeats 1000000 in
theorem rbad_any (s : ByteArray) (hs : s.size ≤ maxLen) (w : World) :
    Calls Try.prog 24 #[.string s] w fun e w' => e = .returned (.int .i64 (badAt s.data.toList s.size 0)) ∧ Below w.heap.size w w' := by
  have hs' := hs
  unfold maxLen at hs
  go_enter Try.func24, Try.ntmps24
  go_wp2
  go_loopw [3] (fun i wr => ∃ (pos f : Nat), i = .int .i64 pos ∧ Below w.heap.size w wr ∧ Hid (badAt s.data.toList f pos = badAt s.data.toList s.size 0) ∧ s.size ≤ pos + f ∧ pos ≤ s.size) (fun i _ => s.size - (intOf i).toNat)
  case atStart => exact ⟨0, s.size, rfl, Below.refl _ _, Lib.hid rfl, by omega, by omega⟩
  case round =>
    obtain ⟨pos, f, rfl, hB, HR, hf, hps⟩ := hrel
    by_cases hp : pos < s.size
    · have hne := drop_ne s pos hp
      have hwl := wide_le (s.data.toList.drop pos)
      obtain ⟨g, rfl⟩ : ∃ g, f = g + 1 := ⟨f - 1, by omega⟩
      obtain ⟨c, hc⟩ : ∃ c, c = chr (s.data.toList.drop pos) := ⟨_, rfl⟩
      obtain ⟨n, hn⟩ : ∃ n, n = wide (s.data.toList.drop pos) := ⟨_, rfl⟩
      have hr := fun w => rread_in s pos w hs' hp
      rw [← hc, ← hn] at hr
      have hn4 : n ≤ 4 := by omega
      have hnl : pos + n ≤ s.size := by
        have h1 := hwl.2
        simp at h1
        have h2 : s.size = s.data.size := rfl
        omega
      have HN := Lib.hid hn
      cases hb : isBad (s.data.toList.drop pos) with
      | true =>
        have h0 : n = 0 := by rw [hn]; simp [wide, hb]
        subst h0
        have HB := Lib.hid hb
        clear hb hn hc hwl
        go_wp2_with (first | (go_at_call 16; refine (hr _).mono ?_; rintro e w' ⟨rfl, hB2⟩))
        go_ret
        exact ⟨ret_int (by rw [← HR.out]; simp [badAt, hp, HB.out]), hB.trans (hB2.mono hB.size)⟩
      | false =>
        have h0 : 1 ≤ n := by rw [hn, wide_good _ hne hb]; exact (good_width _ hne).1
        have HB := Lib.hid hb
        clear hb hn hc hwl
        go_wp2_with (first | (go_at_call 16; refine (hr _).mono ?_; rintro e w' ⟨rfl, hB2⟩))
        go_roundw
        case rel => exact ⟨pos + n, g, by go_num, hB.trans (hB2.mono hB.size), Lib.hid (by rw [← HR.out]; simp [badAt, hp, HB.out, ← HN.out]), by omega, by omega⟩
        case measure => simp [intOf]; omega
    · go_wp2
      go_ret
      exact ⟨ret_int (by rw [← HR.out, badAt_end _ _ _ (by simpa using hp)]), hB⟩

/-- what the document's All leaves -/
def RAllLeaves (base : Nat) (xs : List Int) (e : Ending) (w' : World) : Prop :=
  ∃ v, e = .returned (.tuple #[v, .bool true]) ∧ w'.ownsRow base 2 1 v xs.length (xs.map (Value.int .i64))
set_option maxHeartbeats 1000000 in
theorem rall_good (s : ByteArray) (xs : List Int) (hx : allChar xs) (hsx : s.data.toList = bytes xs) (hs : s.size ≤ 1048576) (w : World) :
    Calls Try.prog 22 #[.string s] w fun e w' => RAllLeaves w.heap.size xs e w' ∧ Below w.heap.size w w' := by
  have hs' : s.size ≤ maxLen := by unfold maxLen; omega
  have hsl : s.size = (bytes xs).length := by rw [← hsx]; rfl
  have hcl := count_le xs hx
  have hcl2 : xs.length ≤ 1048576 := by omega
  obtain ⟨i0, hi, hz0, hz1, hz2⟩ := info_parts info2
  have HSX := Lib.hid hsx
  have HSL := Lib.hid hsl
  clear hsx hsl
  go_enter Try.func22, Try.ntmps22
  go_wp2
  go_loopw [4, 5] (fun v i wr => ∃ (k pos : Nat), k ≤ xs.length ∧ i = .int .i64 pos ∧ Hid (pos = (bytes (xs.take k)).length) ∧ Below w.heap.size w wr ∧ wr.ownsRow w.heap.size 2 1 v k ((xs.take k).map (Value.int .i64))) (fun _ i _ => s.size - (intOf i).toNat)
  case atStart => exact ⟨0, 0, Nat.zero_le _, rfl, Lib.hid rfl, Below.refl _ _, World.ownsRow_nil _ _ _ _⟩
  case round =>
    obtain ⟨k, pos, hk, rfl, HP, hB, hown⟩ := hrel
    by_cases hlt : k < xs.length
    · obtain ⟨x, hxk⟩ : ∃ x, xs[k]? = some x := ⟨xs[k], List.getElem?_eq_getElem hlt⟩
      have hxc : isChar x = true := hx x (List.mem_of_getElem? hxk)
      have hdr : s.data.toList.drop pos = form x ++ bytes (xs.drop (k + 1)) := by rw [HSX.out, HP.out]; exact bytes_at xs k x hxk
      have hp : pos < s.size := by
        have := congrArg List.length hdr
        have h1 := form_len x hxc
        simp at this
        have h2 : s.size = s.data.size := rfl
        omega
      have hr := fun w => rread_in s pos w hs' hp
      have hc1 : chr (s.data.toList.drop pos) = x := by
        rw [hdr]; unfold chr
        rw [if_neg (by simp [form_good x _ hxc, form_ne x hxc])]
        exact chr_bytes x _ hxc
      have hn1 : wide (s.data.toList.drop pos) = (form x).length := by rw [hdr]; exact wide_bytes x _ hxc
      obtain ⟨n, hn⟩ : ∃ n, n = (form x).length := ⟨_, rfl⟩
      rw [hc1, hn1, ← hn] at hr
      have hnl := form_len x hxc
      have hnp : pos + n = (bytes (xs.take (k + 1))).length := by rw [bytes_take xs k x hxk, hn, HP.out]
      have hle := bytes_take_le xs (k + 1)
      have hn0 : 1 ≤ n := by omega
      have hn4 : n ≤ 4 := by omega
      have hk20 : k + 1 ≤ 1048576 := by omega
      have HS := Lib.hid (And.intro hxk hnp)
      clear hxk hdr hc1 hn1 hnp hle hn hnl
      go_wp2_with (first
        | (go_at_call 16; refine (hr _).mono ?_; rintro e w1 ⟨rfl, hB1⟩; have hown1 := owns_below hown hB1; have hB2 := hB.trans (hB1.mono hB.size); clear hown hB1 hB)
        | (at_builtin; refine wpList_append_own _ rfl _ _ 35 rfl w.heap.size 2 i0 (.int .i64 0) 1 8 Try.underlying35 hi hz0 hz1 hz2 rfl (by decide) _ _ _ rfl (hown1.alloc _) ⟨w1.heap.size, 0, none⟩ 1 1 [.int .i64 x] rfl rfl ?c1 ?c2 ?c3 ?c4 ?c5 ?_))
      case c1 => exact one_new _ _ _
      case c2 => intro u hu; simp at hu; subst hu; rfl
      case c3 => unfold maxLen; omega
      case c4 => omega
      case c5 => have := hB2.size; simp; omega
      · intro v' w3 hown' hgrow _
        simp only [← List.map_take] at hown'
        have hB3 : Below w.heap.size w w3 := (hB2.alloc hB2.size _).grown hgrow (by have := hB2.size; simp; omega) (fun q hq => (hown1.lt q hq).1)
        clear hgrow hown1
        go_wp2
        go_roundw
        case rel =>
          refine ⟨k + 1, pos + n, by omega, by go_num, HS.out.2, hB3, ?_⟩
          obtain ⟨h3, h4⟩ := List.getElem?_eq_some_iff.mp HS.out.1
          rw [List.take_succ_eq_append_getElem h3, h4, List.map_append]
          exact hown'
        case measure => simp [intOf]; omega
    · have hke : k = xs.length := by omega
      have hpe : pos = s.size := by have h1 := HP.out; rw [hke, List.take_length] at h1; have := HSL.out; omega
      subst hke
      rw [List.take_length] at hown
      subst hpe
      go_wp2
      go_ret2
      exact ⟨⟨_, rfl, hown⟩, hB⟩
set_option maxHeartbeats 1000000 in
theorem rall_bad (s : ByteArray) (hs : s.size ≤ 1048576) (hbad : 0 ≤ badAt s.data.toList s.size 0) (w : World) :
    Calls Try.prog 22 #[.string s] w fun e w' => e = .returned (.tuple #[.slice none 0 0, .bool false]) ∧ Below w.heap.size w w' := by
  have hs' : s.size ≤ maxLen := by unfold maxLen; omega
  obtain ⟨i0, hi, hz0, hz1, hz2⟩ := info_parts info2
  have HBAD := Lib.hid hbad
  clear hbad
  go_enter Try.func22, Try.ntmps22
  go_wp2
  go_loopw [4, 5] (fun v i wr => ∃ (pos f n : Nat) (vs : List Value), i = .int .i64 pos ∧ Below w.heap.size w wr ∧ wr.ownsRow w.heap.size 2 1 v n vs ∧ n ≤ pos ∧ Hid (badAt s.data.toList f pos = badAt s.data.toList s.size 0) ∧ s.size ≤ pos + f ∧ pos ≤ s.size) (fun _ i _ => s.size - (intOf i).toNat)
  case atStart => exact ⟨0, s.size, 0, [], rfl, Below.refl _ _, World.ownsRow_nil _ _ _ _, by omega, Lib.hid rfl, by omega, by omega⟩
  case round =>
    obtain ⟨pos, f, n, vs, rfl, hB, hown, hnpos, HR, hf, hps⟩ := hrel
    by_cases hp : pos < s.size
    · have hne := drop_ne s pos hp
      have hwl := wide_le (s.data.toList.drop pos)
      obtain ⟨g, rfl⟩ : ∃ g, f = g + 1 := ⟨f - 1, by omega⟩
      obtain ⟨c, hc⟩ : ∃ c, c = chr (s.data.toList.drop pos) := ⟨_, rfl⟩
      obtain ⟨m, hm⟩ : ∃ m, m = wide (s.data.toList.drop pos) := ⟨_, rfl⟩
      have hr := fun w => rread_in s pos w hs' hp
      rw [← hc, ← hm] at hr
      have hm4 : m ≤ 4 := by omega
      have hnl : pos + m ≤ s.size := by
        have h1 := hwl.2
        simp at h1
        have h2 : s.size = s.data.size := rfl
        omega
      have HM := Lib.hid hm
      cases hb : isBad (s.data.toList.drop pos) with
      | true =>
        have h0 : m = 0 := by rw [hm]; simp [wide, hb]
        subst h0
        clear hb hm hc hwl
        go_wp2_with (first | (go_at_call 16; refine (hr _).mono ?_; rintro e w' ⟨rfl, hB2⟩))
        go_ret2
        exact ⟨rfl, hB.trans (hB2.mono hB.size)⟩
      | false =>
        have h0 : 1 ≤ m := by rw [hm, wide_good _ hne hb]; exact (good_width _ hne).1
        have HB := Lib.hid hb
        clear hb hm hc hwl
        go_wp2_with (first
          | (go_at_call 16; refine (hr _).mono ?_; rintro e w1 ⟨rfl, hB1⟩; have hown1 := owns_below hown hB1; have hB2 := hB.trans (hB1.mono hB.size); clear hown hB1 hB)
          | (at_builtin; refine wpList_append_own _ rfl _ _ 35 rfl w.heap.size 2 i0 (.int .i64 0) 1 8 Try.underlying35 hi hz0 hz1 hz2 rfl (by decide) _ _ _ rfl (hown1.alloc _) ⟨w1.heap.size, 0, none⟩ 1 1 [.int .i64 c] rfl rfl ?c1 ?c2 ?c3 ?c4 ?c5 ?_))
        case c1 => exact one_new _ _ _
        case c2 => intro u hu; simp at hu; subst hu; rfl
        case c3 => unfold maxLen; omega
        case c4 => omega
        case c5 => have := hB2.size; simp; omega
        · intro v' w3 hown' hgrow _
          have hB3 : Below w.heap.size w w3 := (hB2.alloc hB2.size _).grown hgrow (by have := hB2.size; simp; omega) (fun q hq => (hown1.lt q hq).1)
          clear hgrow hown1
          go_wp2
          go_roundw
          case rel => exact ⟨pos + m, g, _, _, by go_num, hB3, hown', by omega, Lib.hid (by rw [← HR.out]; simp [badAt, hp, HB.out, ← HM.out]), by omega, by omega⟩
          case measure => simp [intOf]; omega
    · exfalso
      have h1 := HR.out
      rw [badAt_end _ _ _ (by simpa using hp)] at h1
      have h2 := HBAD.out
      omega
end Go.Proofs.Ytmlaefdfpekhcaa
