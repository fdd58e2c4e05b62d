/-
  Contract of runes.All: the characters of a text as a slice of the call's own.
-/
import Derived.Test.YtmlaefdfpekhcaaChars
import Derived.WalkSmall
import Derived.OwnWalk
import Derived.Laws.AppendOwn
import Derived.Outline
namespace Go.Proofs.Ytmlaefdfpekhcaa
open Go.ChangeShapes Go.WideShapes Go.ChangeAt Go.RowKit
open Go.Lib (decodeL)

theorem info21 : (Try.prog.info? 21).map (fun i => (i.zero, i.size, i.bytes)) = some (some (.int .i32 0), 1, 4) := by kernel_rfl
theorem grown_of_below {w w' : World} (h : Below w.heap.size w w') : w.grownBy w' none := ⟨h.os, h.tape, h.output, h.size, fun k hk _ => h.block k hk⟩
theorem owns_below {w w' : World} {base : Nat} {e : TypeId} {size : Nat} {v : Value} {n : Nat} {xs : List Value} (h : w.ownsRow base e size v n xs) (hB : Below w.heap.size w w') : w'.ownsRow base e size v n xs :=
  h.kept (grown_of_below hB) (by cases v.ownBlock <;> simp)

/-- one character of a text of characters -/
theorem bytes_at (xs : List Int) (k : Nat) (x : Int) (hk : xs[k]? = some x) : (bytes xs).drop (bytes (xs.take k)).length = form x ++ bytes (xs.drop (k + 1)) := by
  obtain ⟨h1, h2⟩ := List.getElem?_eq_some_iff.mp hk
  have : xs = xs.take k ++ x :: xs.drop (k + 1) := by
    rw [← h2, ← List.drop_eq_getElem_cons h1, List.take_append_drop]
  have hb : bytes xs = bytes (xs.take k) ++ (form x ++ bytes (xs.drop (k + 1))) := by
    rw [← bytes_cons, ← bytes_append, ← this]
  rw [hb, List.drop_left]
theorem bytes_take (xs : List Int) (k : Nat) (x : Int) (hk : xs[k]? = some x) : (bytes (xs.take (k + 1))).length = (bytes (xs.take k)).length + (form x).length := by
  obtain ⟨h1, h2⟩ := List.getElem?_eq_some_iff.mp hk
  rw [List.take_succ_eq_append_getElem h1, h2, bytes_append, List.length_append, bytes_one]
theorem bytes_take_le (xs : List Int) (k : Nat) : (bytes (xs.take k)).length ≤ (bytes xs).length := by
  have : bytes xs = bytes (xs.take k) ++ bytes (xs.drop k) := by rw [← bytes_append, List.take_append_drop]
  rw [this]; simp
theorem count_le : ∀ (xs : List Int), allChar xs → xs.length ≤ (bytes xs).length
  | [], _ => by simp
  | x :: xs, h => by
    have h1 := form_len x (h x (by simp))
    have h2 := count_le xs (fun y hy => h y (by simp [hy]))
    rw [bytes_cons, List.length_append, List.length_cons]; omega

theorem one_new (w : World) (x : Value) (t : TypeId) : ∀ j u, [x][j]? = some u → (w.alloc (.cells #[x] t)).cell? ((⟨w.heap.size, 0, none⟩ : Addr).add j) = some u := by
  intro j u hj
  match j, hj with
  | 0, hj => simp at hj; subst hj; simp [Addr.add]
  | j + 1, hj => simp at hj

/-- what runes.All leaves -/
def AllLeaves (base : Nat) (xs : List Int) (e : Ending) (w' : World) : Prop :=
  ∃ v, e = .returned (.tuple #[v, .bool true]) ∧ w'.ownsRow base 21 1 v xs.length (xs.map (Value.int .i32))

/-- what a round does -/
theorem all_step {w wr w2 w3 : World} {s : ByteArray} {xs : List Int} {k : Nat} {x : Int} {v v' : Value} (hk : xs[k]? = some x) (np : Nat)
    (hit : wr.heap[w.heap.size]? = some (.stringIter s (bytes (xs.take k)).length)) (hb : Below w.heap.size w wr)
    (hnp : np = (bytes (xs.take k)).length + (form x).length)
    (hw2 : w2 = (wr.iterAt w.heap.size s np).alloc (.cells #[.int .i32 x] 21))
    (hown : wr.ownsRow (w.heap.size + 1) 21 1 v k ((xs.take k).map (Value.int .i32)))
    (hown' : w3.ownsRow (w.heap.size + 1) 21 1 v' (k + 1) ((xs.take k).map (Value.int .i32) ++ [.int .i32 x])) (hg : w2.grownBy w3 v.ownBlock) :
    w3.heap[w.heap.size]? = some (.stringIter s (bytes (xs.take (k + 1))).length) ∧ Below w.heap.size w w3 ∧ w3.ownsRow (w.heap.size + 1) 21 1 v' (k + 1) ((xs.take (k + 1)).map (Value.int .i32)) := by
  have hsz : w.heap.size < wr.heap.size := (Array.getElem?_eq_some_iff.1 hit).1
  have h1 := Lib.iterAt_heap wr w.heap.size s _ np hit
  have h2 : w2.heap[w.heap.size]? = some (.stringIter s np) := by
    rw [hw2, Below.heap_alloc _ _ _ (by rw [Lib.iterAt_size]; exact hsz)]; exact h1
  have hne : some w.heap.size ≠ v.ownBlock := by
    intro e
    have := (hown.lt w.heap.size e.symm).1
    omega
  have hs2 : w.heap.size < w2.heap.size := (Array.getElem?_eq_some_iff.1 h2).1
  refine ⟨?_, ?_, ?_⟩
  · rw [hg.block _ hs2 hne, h2, hnp, bytes_take xs k x hk]
  · have hb2 : Below w.heap.size w w2 := by
      rw [hw2]
      exact (Lib.below_iterAt hb (Nat.le_refl _) s np).alloc (by rw [Lib.iterAt_size]; omega) _
    exact hb2.grown hg (by omega) (fun q hq => by have := (hown.lt q hq).1; omega)
  · obtain ⟨h3, h4⟩ := List.getElem?_eq_some_iff.mp hk
    rw [List.take_succ_eq_append_getElem h3, h4, List.map_append]
    exact hown'

set_option maxHeartbeats 2000000 in
theorem all_good (s : ByteArray) (xs : List Int) (hx : allChar xs) (hsx : s.data.toList = bytes xs) (hs : s.size ≤ 1048576) (w : World) :
    Calls Try.prog 21 #[.string s] w fun e w' => AllLeaves w.heap.size xs e w' ∧ Below w.heap.size w w' := by
  have hs' : s.size ≤ maxLen := by unfold maxLen; omega
  have hsl : s.size = (bytes xs).length := by rw [← hsx]; rfl
  have hcl := count_le xs hx
  have hcl2 : xs.length ≤ 1048576 := by omega
  obtain ⟨i0, hi, hz0, hz1, hz2⟩ := info_parts info21
  have HSX := Lib.hid hsx
  have HSL := Lib.hid hsl
  clear hsx hsl
  go_enter Try.func21, Try.ntmps21
  go_wp2
  go_loopw [4] (fun v wr => ∃ k : Nat, k ≤ xs.length ∧ wr.heap[w.heap.size]? = some (.stringIter s (bytes (xs.take k)).length) ∧ Below w.heap.size w wr ∧ wr.ownsRow (w.heap.size + 1) 21 1 v k ((xs.take k).map (Value.int .i32))) (fun _ wr => s.size - wr.iterPos w.heap.size)
  case atStart => exact ⟨0, Nat.zero_le _, World.iter_heap _ _ _, below_iter _ _ _, World.ownsRow_nil _ _ _ _⟩
  case round =>
    rename_i u4
    obtain ⟨k, hk, hit, hbw, hown⟩ := hrel
    have hsz : w.heap.size < wr.heap.size := (Array.getElem?_eq_some_iff.1 hit).1
    by_cases hlt : k < xs.length
    · obtain ⟨x, hxk⟩ : ∃ x, xs[k]? = some x := ⟨xs[k], List.getElem?_eq_getElem hlt⟩
      have hxc : isChar x = true := hx x (List.mem_of_getElem? hxk)
      obtain ⟨pos, hpos⟩ : ∃ pos, pos = (bytes (xs.take k)).length := ⟨_, rfl⟩
      have hdr : s.data.toList.drop pos = form x ++ bytes (xs.drop (k + 1)) := by rw [HSX.out, hpos]; exact bytes_at xs k x hxk
      have hp : pos < s.size := by
        have := congrArg List.length hdr
        have h1 := form_len x hxc
        simp at this
        have h2 : s.size = s.data.size := rfl
        omega
      have hnb : isBad (s.data.toList.drop pos) = false := by rw [hdr]; exact form_good x _ hxc
      have hd1 : ((Utf8.decode s pos).1 : Int) = x := by rw [← Lib.decodeL_drop, hdr]; exact chr_bytes x _ hxc
      have hd2 : (Utf8.decode s pos).2 = (form x).length := by rw [← Lib.decodeL_drop, hdr, decode_form x _ hxc]
      have hbe := begins_any s pos
      rw [hd1, hnb] at hbe
      have hit' := hit
      rw [← hpos] at hit'
      obtain ⟨np, hnp⟩ : ∃ np, np = pos + (Utf8.decode s pos).2 := ⟨_, rfl⟩
      have hnx : ∀ ty, (Instr.next (.pointer (some ⟨w.heap.size, 0, none⟩)) true ty).run Try.prog wr = .ok (.tuple #[.bool true, .int .i64 pos, .int .i32 x]) (wr.iterAt w.heap.size s np) := by
        intro ty
        rw [Lib.run_next_any_at wr w.heap.size s pos ty hit' hp, hd1, hnp]
      have hnp2 : np = (bytes (xs.take k)).length + (form x).length := by rw [hnp, hd2, hpos]
      have hown2 := ownsRow_iterAt hown (k := w.heap.size) (by omega) s np
      have hip : wr.iterPos w.heap.size = pos := by simp [World.iterPos, hit']
      have hpn : pos < np := by have := form_len x hxc; omega
      have HS := Lib.hid (And.intro hxk (And.intro hit (And.intro hnp2 hip)))
      have hsz2 : (wr.iterAt w.heap.size s np).heap.size = wr.heap.size := Lib.iterAt_size _ _ _ _
      obtain ⟨wi, hwi⟩ : ∃ wi, wi = wr.iterAt w.heap.size s np := ⟨_, rfl⟩
      rw [← hwi] at hnx hown2 hsz2
      have hszi : w.heap.size + 1 ≤ wi.heap.size := by omega
      have HWI := Lib.hid hwi
      have hk20 : k + 1 ≤ 1048576 := by omega
      clear hxk hit hit' hnp2 hip hdr hd1 hd2 hnb hnp hpos hsz2 hwi
      go_wp2_with (first
        | (go_at_call 43; refine (hbe _ hp hs').mono ?_; rintro e w' ⟨rfl, rfl⟩)
        | (at_builtin; refine wpList_append_own _ rfl _ _ 32 rfl (w.heap.size + 1) 21 i0 (.int .i32 0) 1 4 Try.underlying32 hi hz0 hz1 hz2 rfl (by decide) _ _ _ rfl (hown2.alloc _) ⟨wi.heap.size, 0, none⟩ 1 1 [.int .i32 x] rfl rfl ?c1 ?c2 ?c3 ?c4 ?c5 ?_))
      case c1 => exact one_new _ _ _
      case c2 => intro u hu; simp at hu; subst hu; rfl
      case c3 => unfold maxLen; omega
      case c4 => omega
      case c5 => simp; omega
      · intro v' w1 hown' hgrow _
        simp only [← List.map_take] at hown'
        have R := all_step HS.out.1 np HS.out.2.1 hbw HS.out.2.2.1 (by rw [HWI.out]) hown hown' hgrow
        clear hgrow hown' hown hown2
        go_wp2
        go_roundw
        case rel => exact ⟨k + 1, by omega, R.1, R.2.1, R.2.2⟩
        case measure =>
          have hi3 : w1.iterPos w.heap.size = (bytes (xs.take (k + 1))).length := by simp [World.iterPos, R.1]
          have := bytes_take xs k x HS.out.1
          have := HS.out.2.2.1
          simp only [HS.out.2.2.2, hi3]
          omega
    · have hke : k = xs.length := by omega
      subst hke
      rw [List.take_length] at hit hown
      have hnp : ¬ (bytes xs).length < s.size := by have := HSL.out; omega
      have hnx : ∀ ty, (Instr.next (.pointer (some ⟨w.heap.size, 0, none⟩)) true ty).run Try.prog wr = _ := fun ty => Lib.run_next_end_at wr w.heap.size s _ ty hit hnp
      have HI := Lib.hid hit
      clear hit
      go_wp2
      go_ret2
      exact ⟨⟨_, rfl, hown.1, by
        rcases hown.2 with h | ⟨g, cap, cur, a, b, c⟩
        · exact .inl h
        · exact .inr ⟨g, cap, cur, a, by omega, c⟩⟩, hbw⟩
theorem any_step {w wr w2 w3 : World} {s : ByteArray} {pos np : Nat} {x : Int} {v : Value} {n : Nat} {vs : List Value}
    (hit : wr.heap[w.heap.size]? = some (.stringIter s pos)) (hb : Below w.heap.size w wr)
    (hw2 : w2 = (wr.iterAt w.heap.size s np).alloc (.cells #[.int .i32 x] 21))
    (hown : wr.ownsRow (w.heap.size + 1) 21 1 v n vs) (hg : w2.grownBy w3 v.ownBlock) :
    w3.heap[w.heap.size]? = some (.stringIter s np) ∧ Below w.heap.size w w3 := by
  have hsz : w.heap.size < wr.heap.size := (Array.getElem?_eq_some_iff.1 hit).1
  have h1 := Lib.iterAt_heap wr w.heap.size s _ np hit
  have h2 : w2.heap[w.heap.size]? = some (.stringIter s np) := by
    rw [hw2, Below.heap_alloc _ _ _ (by rw [Lib.iterAt_size]; exact hsz)]; exact h1
  have hne : some w.heap.size ≠ v.ownBlock := by
    intro e
    have := (hown.lt w.heap.size e.symm).1
    omega
  have hs2 : w.heap.size < w2.heap.size := (Array.getElem?_eq_some_iff.1 h2).1
  refine ⟨by rw [hg.block _ hs2 hne, h2], ?_⟩
  have hb2 : Below w.heap.size w w2 := by
    rw [hw2]
    exact (Lib.below_iterAt hb (Nat.le_refl _) s np).alloc (by rw [Lib.iterAt_size]; omega) _
  exact hb2.grown hg (by omega) (fun q hq => by have := (hown.lt q hq).1; omega)

set_option maxHeartbeats 2000000 in
theorem all_bad (s : ByteArray) (hs : s.size ≤ 1048576) (hbad : 0 ≤ badAt s.data.toList s.size 0) (w : World) :
    Calls Try.prog 21 #[.string s] w fun e w' => e = .returned (.tuple #[.slice none 0 0, .bool false]) ∧ Below w.heap.size w w' := by
  have hs' : s.size ≤ maxLen := by unfold maxLen; omega
  obtain ⟨i0, hi, hz0, hz1, hz2⟩ := info_parts info21
  have HBAD := Lib.hid hbad
  clear hbad
  go_enter Try.func21, Try.ntmps21
  go_wp2
  go_loopw [4] (fun v wr => ∃ (pos f n : Nat) (vs : List Value), wr.heap[w.heap.size]? = some (.stringIter s pos) ∧ Below w.heap.size w wr ∧ wr.ownsRow (w.heap.size + 1) 21 1 v n vs ∧ n ≤ pos ∧ Hid (badAt s.data.toList f pos = badAt s.data.toList s.size 0) ∧ s.size ≤ pos + f) (fun _ wr => s.size - wr.iterPos w.heap.size)
  case atStart => exact ⟨0, s.size, 0, [], World.iter_heap _ _ _, below_iter _ _ _, World.ownsRow_nil _ _ _ _, by omega, Lib.hid rfl, by omega⟩
  case round =>
    obtain ⟨pos, f, n, vs, hit, hbw, hown, hnpos, HR, hf⟩ := hrel
    have hsz : w.heap.size < wr.heap.size := (Array.getElem?_eq_some_iff.1 hit).1
    by_cases hp : pos < s.size
    · have hne := drop_ne s pos hp
      have hwd := width_pos' s pos hp
      obtain ⟨g, rfl⟩ : ∃ g, f = g + 1 := ⟨f - 1, by omega⟩
      obtain ⟨x, hx⟩ : ∃ x : Int, x = ((Utf8.decode s pos).1 : Int) := ⟨_, rfl⟩
      obtain ⟨np, hnp⟩ : ∃ np, np = pos + (Utf8.decode s pos).2 := ⟨_, rfl⟩
      have hbe := begins_any s pos
      rw [← hx] at hbe
      have hnx : ∀ ty, (Instr.next (.pointer (some ⟨w.heap.size, 0, none⟩)) true ty).run Try.prog wr = .ok (.tuple #[.bool true, .int .i64 pos, .int .i32 x]) (wr.iterAt w.heap.size s np) := by
        intro ty
        rw [Lib.run_next_any_at wr w.heap.size s pos ty hit hp, hx, hnp]
      have hown2 := ownsRow_iterAt hown (k := w.heap.size) (by omega) s np
      have hip : wr.iterPos w.heap.size = pos := by simp [World.iterPos, hit]
      have hpn : pos < np := by omega
      have hsz2 : (wr.iterAt w.heap.size s np).heap.size = wr.heap.size := Lib.iterAt_size _ _ _ _
      have hbi := Lib.below_iterAt hbw (Nat.le_refl _) s np
      obtain ⟨wi, hwi⟩ : ∃ wi, wi = wr.iterAt w.heap.size s np := ⟨_, rfl⟩
      rw [← hwi] at hnx hown2 hsz2 hbi
      have hszi : w.heap.size + 1 ≤ wi.heap.size := by omega
      have HWI := Lib.hid hwi
      have HS := Lib.hid (And.intro hit hip)
      have HX := Lib.hid hnp
      cases hb : isBad (s.data.toList.drop pos) with
      | true =>
        have HB := Lib.hid hb
        clear hb hit hip hwi hsz2 hx hnp hwd
        go_wp2_with (first | (go_at_call 43; refine (hbe _ hp hs').mono ?_; rintro e w' ⟨rfl, rfl⟩; rw [HB.out]))
        go_ret2
        exact ⟨rfl, hbi⟩
      | false =>
        have HB := Lib.hid hb
        clear hb hit hip hwi hsz2 hx hnp hwd
        go_wp2_with (first
          | (go_at_call 43; refine (hbe _ hp hs').mono ?_; rintro e w' ⟨rfl, rfl⟩; rw [HB.out])
          | (at_builtin; refine wpList_append_own _ rfl _ _ 32 rfl (w.heap.size + 1) 21 i0 (.int .i32 0) 1 4 Try.underlying32 hi hz0 hz1 hz2 rfl (by decide) _ _ _ rfl (hown2.alloc _) ⟨wi.heap.size, 0, none⟩ 1 1 [.int .i32 x] rfl rfl ?c1 ?c2 ?c3 ?c4 ?c5 ?_))
        case c1 => exact one_new _ _ _
        case c2 => intro u hu; simp at hu; subst hu; rfl
        case c3 => unfold maxLen; omega
        case c4 => omega
        case c5 => simp; omega
        · intro v' w1 hown' hgrow _
          have R := any_step (np := np) HS.out.1 hbw (by rw [HWI.out]) hown hgrow
          clear hgrow hown hown2
          go_wp2
          go_roundw
          case rel =>
            refine ⟨np, g, _, _, R.1, R.2, hown', by omega, Lib.hid ?_, by omega⟩
            rw [← HR.out]
            have hw := wide_good _ hne HB.out
            rw [Lib.decodeL_drop] at hw
            simp [badAt, hp, HB.out, hw, HX.out]
          case measure =>
            have hi3 : w1.iterPos w.heap.size = np := by simp [World.iterPos, R.1]
            simp only [HS.out.2, hi3]
            omega
    · exfalso
      have h1 := HR.out
      rw [badAt_end _ _ _ (by simpa using hp)] at h1
      have h2 := HBAD.out
      omega
end Go.Proofs.Ytmlaefdfpekhcaa
