/-
  The statement RunesBack walked.
-/
import Derived.Test.YtmlaefdfpekhcaaAa
import Derived.Deep.QuietTactic
import Derived.BigQuiet
namespace Go.Proofs.Ytmlaefdfpekhcaa
open Go.ChangeShapes Go.WideShapes Go.ChangeAt Go.RowKit

/-- the second half: the text's characters, joined again -/
theorem string_eq (s : ByteArray) (xs : List Int) (h : s.data.toList = bytes xs) : s = ⟨(bytes xs).toArray⟩ := ba_of_list h
theorem bad_of_good (s : ByteArray) (xs : List Int) (hx : allChar xs) (h : s.data.toList = bytes xs) : badAt s.data.toList s.size 0 = -1 := by
  have := bad_none xs [] s.size hx
  rw [List.nil_append, List.length_nil, ← h] at this
  exact this

set_option maxHeartbeats 2000000 in
theorem all_good_big (s : ByteArray) (xs : List Int) (hx : allChar xs) (hsx : s.data.toList = bytes xs) (hs : s.size ≤ 8388608) (w : World) :
    Calls Try.prog 21 #[.string s] w fun e w' => AllLeaves w.heap.size xs e w' ∧ Below w.heap.size w w' := by
  have hs' : s.size ≤ maxLen := by unfold maxLen; omega
  have hsl : s.size = (bytes xs).length := by rw [← hsx]; rfl
  have hcl := count_le xs hx
  have hcl2 : xs.length ≤ 8388608 := by omega
  obtain ⟨i0, hi, hz0, hz1, hz2⟩ := info_parts info21
  have HSX := Lib.hid hsx
  have HSL := Lib.hid hsl
  clear hsx hsl
  go_enter Try.func21, Try.ntmps21
  go_wp2
  go_loopw [4] (fun v wr => ∃ k : Nat, k ≤ xs.length ∧ wr.heap[w.heap.size]? = some (.stringIter s (bytes (xs.take k)).length) ∧ Below w.heap.size w wr ∧ wr.ownsRow (w.heap.size + 1) 21 1 v k ((xs.take k).map (Value.int .i32))) (fun _ wr => s.size - wr.iterPos w.heap.size)
  case atStart => exact ⟨0, Nat.zero_le _, World.iter_heap _ _ _, below_iter _ _ _, World.ownsRow_nil _ _ _ _⟩
  case round =>
    rename_i u4
    obtain ⟨k, hk, hit, hbw, hown⟩ := hrel
    have hsz : w.heap.size < wr.heap.size := (Array.getElem?_eq_some_iff.1 hit).1
    by_cases hlt : k < xs.length
    · obtain ⟨x, hxk⟩ : ∃ x, xs[k]? = some x := ⟨xs[k], List.getElem?_eq_getElem hlt⟩
      have hxc : isChar x = true := hx x (List.mem_of_getElem? hxk)
      obtain ⟨pos, hpos⟩ : ∃ pos, pos = (bytes (xs.take k)).length := ⟨_, rfl⟩
      have hdr : s.data.toList.drop pos = form x ++ bytes (xs.drop (k + 1)) := by rw [HSX.out, hpos]; exact bytes_at xs k x hxk
      have hp : pos < s.size := by
        have := congrArg List.length hdr
        have h1 := form_len x hxc
        simp at this
        have h2 : s.size = s.data.size := rfl
        omega
      have hnb : isBad (s.data.toList.drop pos) = false := by rw [hdr]; exact form_good x _ hxc
      have hd1 : ((Utf8.decode s pos).1 : Int) = x := by rw [← Lib.decodeL_drop, hdr]; exact chr_bytes x _ hxc
      have hd2 : (Utf8.decode s pos).2 = (form x).length := by rw [← Lib.decodeL_drop, hdr, decode_form x _ hxc]
      have hbe := begins_any s pos
      rw [hd1, hnb] at hbe
      have hit' := hit
      rw [← hpos] at hit'
      obtain ⟨np, hnp⟩ : ∃ np, np = pos + (Utf8.decode s pos).2 := ⟨_, rfl⟩
      have hnx : ∀ ty, (Instr.next (.pointer (some ⟨w.heap.size, 0, none⟩)) true ty).run Try.prog wr = .ok (.tuple #[.bool true, .int .i64 pos, .int .i32 x]) (wr.iterAt w.heap.size s np) := by
        intro ty
        rw [Lib.run_next_any_at wr w.heap.size s pos ty hit' hp, hd1, hnp]
      have hnp2 : np = (bytes (xs.take k)).length + (form x).length := by rw [hnp, hd2, hpos]
      have hown2 := ownsRow_iterAt hown (k := w.heap.size) (by omega) s np
      have hip : wr.iterPos w.heap.size = pos := by simp [World.iterPos, hit']
      have hpn : pos < np := by have := form_len x hxc; omega
      have HS := Lib.hid (And.intro hxk (And.intro hit (And.intro hnp2 hip)))
      have hsz2 : (wr.iterAt w.heap.size s np).heap.size = wr.heap.size := Lib.iterAt_size _ _ _ _
      obtain ⟨wi, hwi⟩ : ∃ wi, wi = wr.iterAt w.heap.size s np := ⟨_, rfl⟩
      rw [← hwi] at hnx hown2 hsz2
      have hszi : w.heap.size + 1 ≤ wi.heap.size := by omega
      have HWI := Lib.hid hwi
      have hk20 : k + 1 ≤ 8388608 := by omega
      clear hxk hit hit' hnp2 hip hdr hd1 hd2 hnb hnp hpos hsz2 hwi
      go_wp2_with (first
        | (go_at_call 43; refine (hbe _ hp hs').mono ?_; rintro e w' ⟨rfl, rfl⟩)
        | (at_builtin; refine wpList_append_own _ rfl _ _ 32 rfl (w.heap.size + 1) 21 i0 (.int .i32 0) 1 4 Try.underlying32 hi hz0 hz1 hz2 rfl (by decide) _ _ _ rfl (hown2.alloc _) ⟨wi.heap.size, 0, none⟩ 1 1 [.int .i32 x] rfl rfl ?c1 ?c2 ?c3 ?c4 ?c5 ?_))
      case c1 => exact one_new _ _ _
      case c2 => intro u hu; simp at hu; subst hu; rfl
      case c3 => unfold maxLen; omega
      case c4 => omega
      case c5 => simp; omega
      · intro v' w1 hown' hgrow _
        simp only [← List.map_take] at hown'
        have R := all_step HS.out.1 np HS.out.2.1 hbw HS.out.2.2.1 (by rw [HWI.out]) hown hown' hgrow
        clear hgrow hown' hown hown2
        go_wp2
        go_roundw
        case rel => exact ⟨k + 1, by omega, R.1, R.2.1, R.2.2⟩
        case measure =>
          have hi3 : w1.iterPos w.heap.size = (bytes (xs.take (k + 1))).length := by simp [World.iterPos, R.1]
          have := bytes_take xs k x HS.out.1
          have := HS.out.2.2.1
          simp only [HS.out.2.2.2, hi3]
          omega
    · have hke : k = xs.length := by omega
      subst hke
      rw [List.take_length] at hit hown
      have hnp : ¬ (bytes xs).length < s.size := by have := HSL.out; omega
      have hnx : ∀ ty, (Instr.next (.pointer (some ⟨w.heap.size, 0, none⟩)) true ty).run Try.prog wr = _ := fun ty => Lib.run_next_end_at wr w.heap.size s _ ty hit hnp
      have HI := Lib.hid hit
      clear hit
      go_wp2
      go_ret2
      exact ⟨⟨_, rfl, hown.1, by
        rcases hown.2 with h | ⟨g, cap, cur, a, b, c⟩
        · exact .inl h
        · exact .inr ⟨g, cap, cur, a, by omega, c⟩⟩, hbw⟩
set_option maxRecDepth 100000 in
set_option maxHeartbeats 4000000 in
theorem back_ng (w : World) (a : Option Addr) (n cap : Nat) (ls : List Int) (s : ByteArray) (xs : List Int) (hc : Came w a n cap ls) (hn : n ≤ 1048576) (hlb : ls.all isChar = false) (hx : allChar xs) (hsx : s.data.toList = bytes xs) (hs : s.size ≤ 1048576) :
    Calls Try.prog 7 #[.slice a n cap, .string s] w fun e w' => e = .returned (.bool true) ∧ Below w.heap.size w w' := by
  have hl := hc.1
  have HLX := Lib.hid hl
  clear hl
  have hs' : s.size ≤ maxLen := by unfold maxLen; omega
  have hj : ∀ w v, Reads .i32 w v ls → Calls Try.prog 26 #[v] w fun e w' => e = .returned (.tuple #[.string ⟨#[]⟩, .bool false]) ∧ Below w.heap.size w w' :=
    fun w v hr => join_bad w v ls hr (fun h2 => by rw [(allChar_iff ls).2 h2] at hlb; cases hlb) (by have := HLX.out; omega)
  clear hlb
  have ha := fun w => all_good s xs hx hsx hs w
  have hxl : xs.length ≤ 1048576 := by
    have h1 := count_le xs hx
    have h2 : s.size = (bytes xs).length := by rw [← hsx]; rfl
    omega
  have hj2 : ∀ w v, Reads .i32 w v xs → Calls Try.prog 26 #[v] w fun e w' => e = .returned (.tuple #[.string s, .bool true]) ∧ Below w.heap.size w w' := by
    intro w v hr
    rw [string_eq s xs hsx]
    exact join_good w v xs hr hx hxl
  have HB := Lib.hid (bad_of_good s xs hx hsx)
  clear hsx
  have hA : Below w.heap.size w w := Below.refl _ _
  have hm1 := fun (w0 : World) => owns_made w0
  go_enter Try.func7, Try.ntmps7
  go_wp2_with (first
    | (go_at_call 17; refine (fixed1_any _).mono ?_; rintro e w1 ⟨rfl, hB⟩; replace hA := below_chain hA hB; replace hc := came_below hc hB; clear hB)
    | (at_builtin; refine append_came rfl _ _ rfl w1.heap.size _ 0 [] rfl (hm1 w1) a n cap ls rfl (came_below hc ((Below.refl _ w1).alloc (Nat.le_refl _) _)) (by omega) (by simp) ?_))
  intro v' w2 hown hg
  have hB2 : Below w1.heap.size w1 w2 := ((Below.refl _ w1).alloc (Nat.le_refl _) _).grown hg (by simp) (fun q hq => by simp [Value.ownBlock] at hq; omega)
  have hrd : Reads .i32 w2 v' ls := reads_of (xs := ls) (by rw [HLX.out]; simpa using hown)
  replace hA := below_chain hA hB2
  replace hc := came_below hc hB2
  clear hown hg hB2 hm1
  clear hc
  go_wp2_with (first
    | (go_at_call 26; (with_reducible refine (hj _ _ hrd).mono ?_); rintro e w3 ⟨rfl, hB⟩; replace hA := below_chain hA hB; clear hB)
    | (go_at_call 21; (with_reducible refine (ha _).mono ?_); rintro e w4 ⟨⟨v1, rfl, o1⟩, hB⟩; have r1 := reads_of o1; replace hA := below_chain hA hB; clear o1 hB)
    | (go_at_call 26; (with_reducible refine (hj2 _ _ r1).mono ?_); rintro e w5 ⟨rfl, hB⟩; replace hA := below_chain hA hB; clear hB)
    | (go_at_call 23; refine (bad_any s _ hs').mono ?_; rintro e w6 ⟨rfl, hB⟩; rw [HB.out]; replace hA := below_chain hA hB; clear hB))
  go_ret
  exact ⟨rfl, hA⟩
set_option maxRecDepth 100000 in
set_option maxHeartbeats 4000000 in
theorem back_nn (w : World) (a : Option Addr) (n cap : Nat) (ls : List Int) (s : ByteArray) (hc : Came w a n cap ls) (hn : n ≤ 1048576) (hlb : ls.all isChar = false) (hbad : 0 ≤ badAt s.data.toList s.size 0) (hs : s.size ≤ 1048576) :
    Calls Try.prog 7 #[.slice a n cap, .string s] w fun e w' => e = .returned (.bool true) ∧ Below w.heap.size w w' := by
  have hl := hc.1
  have HLX := Lib.hid hl
  clear hl
  have hs' : s.size ≤ maxLen := by unfold maxLen; omega
  have hj : ∀ w v, Reads .i32 w v ls → Calls Try.prog 26 #[v] w fun e w' => e = .returned (.tuple #[.string ⟨#[]⟩, .bool false]) ∧ Below w.heap.size w w' :=
    fun w v hr => join_bad w v ls hr (fun h2 => by rw [(allChar_iff ls).2 h2] at hlb; cases hlb) (by have := HLX.out; omega)
  clear hlb
  have ha := fun w => all_bad s hs hbad w
  obtain ⟨bs, hbs⟩ : ∃ bs, bs = badAt s.data.toList s.size 0 := ⟨_, rfl⟩
  rw [← hbs] at hbad
  have HB := Lib.hid hbs.symm
  clear hbs
  have hA : Below w.heap.size w w := Below.refl _ _
  have hm1 := fun (w0 : World) => owns_made w0
  go_enter Try.func7, Try.ntmps7
  go_wp2_with (first
    | (go_at_call 17; refine (fixed1_any _).mono ?_; rintro e w1 ⟨rfl, hB⟩; replace hA := below_chain hA hB; replace hc := came_below hc hB; clear hB)
    | (at_builtin; refine append_came rfl _ _ rfl w1.heap.size _ 0 [] rfl (hm1 w1) a n cap ls rfl (came_below hc ((Below.refl _ w1).alloc (Nat.le_refl _) _)) (by omega) (by simp) ?_))
  intro v' w2 hown hg
  have hB2 : Below w1.heap.size w1 w2 := ((Below.refl _ w1).alloc (Nat.le_refl _) _).grown hg (by simp) (fun q hq => by simp [Value.ownBlock] at hq; omega)
  have hrd : Reads .i32 w2 v' ls := reads_of (xs := ls) (by rw [HLX.out]; simpa using hown)
  replace hA := below_chain hA hB2
  replace hc := came_below hc hB2
  clear hown hg hB2 hm1
  clear hc
  go_wp2_with (first
    | (go_at_call 26; (with_reducible refine (hj _ _ hrd).mono ?_); rintro e w3 ⟨rfl, hB⟩; replace hA := below_chain hA hB; clear hB)
    | (go_at_call 21; (with_reducible refine (ha _).mono ?_); rintro e w4 ⟨rfl, hB⟩; replace hA := below_chain hA hB; clear hB)
    | (go_at_call 23; refine (bad_any s _ hs').mono ?_; rintro e w6 ⟨rfl, hB⟩; rw [HB.out]; replace hA := below_chain hA hB; clear hB))
  go_ret
  exact ⟨rfl, hA⟩
set_option maxRecDepth 100000 in
set_option maxHeartbeats 4000000 in
theorem back_gg (w : World) (a : Option Addr) (n cap : Nat) (ls : List Int) (s : ByteArray) (xs : List Int) (hc : Came w a n cap ls) (hn : n ≤ 1048576) (hlb : ls.all isChar = true) (hx : allChar xs) (hsx : s.data.toList = bytes xs) (hs : s.size ≤ 1048576) :
    Calls Try.prog 7 #[.slice a n cap, .string s] w fun e w' => e = .returned (.bool true) ∧ Below w.heap.size w w' := by
  have hl := hc.1
  have HLX := Lib.hid hl
  clear hl
  have hs' : s.size ≤ maxLen := by unfold maxLen; omega
  have hla := (allChar_iff ls).1 hlb
  obtain ⟨t, ht⟩ : ∃ t : ByteArray, t = ⟨(bytes ls).toArray⟩ := ⟨_, rfl⟩
  have htl : t.data.toList = bytes ls := by rw [ht]
  have hts : t.size ≤ 8388608 := by
    have h1 := bytes_len ls hla
    have h2 : t.size = (bytes ls).length := by rw [ht]; rfl
    have h3 := HLX.out
    omega
  have hj : ∀ w v, Reads .i32 w v ls → Calls Try.prog 26 #[v] w fun e w' => e = .returned (.tuple #[.string t, .bool true]) ∧ Below w.heap.size w w' := by
    intro w v hr
    rw [ht]
    exact join_good w v ls hr hla (by have := HLX.out; omega)
  have hat := fun w => all_good_big t ls hla htl hts w
  clear ht htl hla hlb
  have ha := fun w => all_good s xs hx hsx hs w
  have hxl : xs.length ≤ 1048576 := by
    have h1 := count_le xs hx
    have h2 : s.size = (bytes xs).length := by rw [← hsx]; rfl
    omega
  have hj2 : ∀ w v, Reads .i32 w v xs → Calls Try.prog 26 #[v] w fun e w' => e = .returned (.tuple #[.string s, .bool true]) ∧ Below w.heap.size w w' := by
    intro w v hr
    rw [string_eq s xs hsx]
    exact join_good w v xs hr hx hxl
  have HB := Lib.hid (bad_of_good s xs hx hsx)
  clear hsx
  have hA : Below w.heap.size w w := Below.refl _ _
  have hm1 := fun (w0 : World) => owns_made w0
  go_enter Try.func7, Try.ntmps7
  go_wp2_with (first
    | (go_at_call 17; refine (fixed1_any _).mono ?_; rintro e w1 ⟨rfl, hB⟩; replace hA := below_chain hA hB; replace hc := came_below hc hB; clear hB)
    | (at_builtin; refine append_came rfl _ _ rfl w1.heap.size _ 0 [] rfl (hm1 w1) a n cap ls rfl (came_below hc ((Below.refl _ w1).alloc (Nat.le_refl _) _)) (by omega) (by simp) ?_))
  intro v' w2 hown hg
  have hB2 : Below w1.heap.size w1 w2 := ((Below.refl _ w1).alloc (Nat.le_refl _) _).grown hg (by simp) (fun q hq => by simp [Value.ownBlock] at hq; omega)
  have hrd : Reads .i32 w2 v' ls := reads_of (xs := ls) (by rw [HLX.out]; simpa using hown)
  replace hA := below_chain hA hB2
  replace hc := came_below hc hB2
  clear hown hg hB2 hm1
  go_wp2_with (first
    | (go_at_call 26; (with_reducible refine (hj _ _ hrd).mono ?_); rintro e w3 ⟨rfl, hB⟩; replace hA := below_chain hA hB; replace hc := came_below hc hB; clear hB)
    | (go_at_call 21; (with_reducible refine (hat _).mono ?_); rintro e w7 ⟨⟨v7, rfl, o7⟩, hB⟩; have r7 := reads_of o7; replace hA := below_chain hA hB; replace hc := came_below hc hB; clear o7 hB; obtain ⟨a7, cap7, rfl, q7⟩ := r7; rw [HLX.out]))
  clear hrd hat hj
  go_loopw [9] (fun i wr => ∃ k : Nat, k ≤ n ∧ i = .int .i64 k ∧ Below w7.heap.size w7 wr) (fun i _ => n - (intOf i).toNat)
  case atStart => exact ⟨0, Nat.zero_le _, rfl, Below.refl _ _⟩
  case round =>
    obtain ⟨k, hk, rfl, hB⟩ := hrel
    by_cases hlt : k < n
    · obtain ⟨x, hxk⟩ : ∃ x, ls[k]? = some x := ⟨ls[k]'(by have := HLX.out; omega), List.getElem?_eq_getElem (by have := HLX.out; omega)⟩
      obtain ⟨g1, rfl, e1⟩ := q7 k x hxk
      obtain ⟨g2, off, rfl, e2⟩ := came_at (came_below hc hB) hxk
      have c1 := (hB.cell (p := ⟨g1, k, none⟩) (cell_lt e1)).trans e1
      have i1 : (k : Int) < (n : Int) := by omega
      clear q7 e1 hxk hc
      go_wp2
      go_quiet (fail)
      go_wp2
      go_roundw
      case rel => exact ⟨k + 1, by omega, by go_num, below_drewN hB _⟩
      case measure => simp [intOf]; omega
    · replace hA := hA.trans (hB.mono hA.size)
      clear hc q7
      go_wp2_with (first
        | (go_at_call 21; (with_reducible refine (ha _).mono ?_); rintro e w4 ⟨⟨v1, rfl, o1⟩, hB⟩; have r1 := reads_of o1; replace hA := below_chain hA hB; clear o1 hB)
        | (go_at_call 26; (with_reducible refine (hj2 _ _ r1).mono ?_); rintro e w5 ⟨rfl, hB⟩; replace hA := below_chain hA hB; clear hB)
        | (go_at_call 23; refine (bad_any s _ hs').mono ?_; rintro e w6 ⟨rfl, hB⟩; rw [HB.out]; replace hA := below_chain hA hB; clear hB))
      go_ret
      exact ⟨rfl, hA⟩
set_option maxRecDepth 100000 in
set_option maxHeartbeats 4000000 in
theorem back_gn (w : World) (a : Option Addr) (n cap : Nat) (ls : List Int) (s : ByteArray) (hc : Came w a n cap ls) (hn : n ≤ 1048576) (hlb : ls.all isChar = true) (hbad : 0 ≤ badAt s.data.toList s.size 0) (hs : s.size ≤ 1048576) :
    Calls Try.prog 7 #[.slice a n cap, .string s] w fun e w' => e = .returned (.bool true) ∧ Below w.heap.size w w' := by
  have hl := hc.1
  have HLX := Lib.hid hl
  clear hl
  have hs' : s.size ≤ maxLen := by unfold maxLen; omega
  have hla := (allChar_iff ls).1 hlb
  obtain ⟨t, ht⟩ : ∃ t : ByteArray, t = ⟨(bytes ls).toArray⟩ := ⟨_, rfl⟩
  have htl : t.data.toList = bytes ls := by rw [ht]
  have hts : t.size ≤ 8388608 := by
    have h1 := bytes_len ls hla
    have h2 : t.size = (bytes ls).length := by rw [ht]; rfl
    have h3 := HLX.out
    omega
  have hj : ∀ w v, Reads .i32 w v ls → Calls Try.prog 26 #[v] w fun e w' => e = .returned (.tuple #[.string t, .bool true]) ∧ Below w.heap.size w w' := by
    intro w v hr
    rw [ht]
    exact join_good w v ls hr hla (by have := HLX.out; omega)
  have hat := fun w => all_good_big t ls hla htl hts w
  clear ht htl hla hlb
  have ha := fun w => all_bad s hs hbad w
  obtain ⟨bs, hbs⟩ : ∃ bs, bs = badAt s.data.toList s.size 0 := ⟨_, rfl⟩
  rw [← hbs] at hbad
  have HB := Lib.hid hbs.symm
  clear hbs
  have hA : Below w.heap.size w w := Below.refl _ _
  have hm1 := fun (w0 : World) => owns_made w0
  go_enter Try.func7, Try.ntmps7
  go_wp2_with (first
    | (go_at_call 17; refine (fixed1_any _).mono ?_; rintro e w1 ⟨rfl, hB⟩; replace hA := below_chain hA hB; replace hc := came_below hc hB; clear hB)
    | (at_builtin; refine append_came rfl _ _ rfl w1.heap.size _ 0 [] rfl (hm1 w1) a n cap ls rfl (came_below hc ((Below.refl _ w1).alloc (Nat.le_refl _) _)) (by omega) (by simp) ?_))
  intro v' w2 hown hg
  have hB2 : Below w1.heap.size w1 w2 := ((Below.refl _ w1).alloc (Nat.le_refl _) _).grown hg (by simp) (fun q hq => by simp [Value.ownBlock] at hq; omega)
  have hrd : Reads .i32 w2 v' ls := reads_of (xs := ls) (by rw [HLX.out]; simpa using hown)
  replace hA := below_chain hA hB2
  replace hc := came_below hc hB2
  clear hown hg hB2 hm1
  go_wp2_with (first
    | (go_at_call 26; (with_reducible refine (hj _ _ hrd).mono ?_); rintro e w3 ⟨rfl, hB⟩; replace hA := below_chain hA hB; replace hc := came_below hc hB; clear hB)
    | (go_at_call 21; (with_reducible refine (hat _).mono ?_); rintro e w7 ⟨⟨v7, rfl, o7⟩, hB⟩; have r7 := reads_of o7; replace hA := below_chain hA hB; replace hc := came_below hc hB; clear o7 hB; obtain ⟨a7, cap7, rfl, q7⟩ := r7; rw [HLX.out]))
  clear hrd hat hj
  go_loopw [9] (fun i wr => ∃ k : Nat, k ≤ n ∧ i = .int .i64 k ∧ Below w7.heap.size w7 wr) (fun i _ => n - (intOf i).toNat)
  case atStart => exact ⟨0, Nat.zero_le _, rfl, Below.refl _ _⟩
  case round =>
    obtain ⟨k, hk, rfl, hB⟩ := hrel
    by_cases hlt : k < n
    · obtain ⟨x, hxk⟩ : ∃ x, ls[k]? = some x := ⟨ls[k]'(by have := HLX.out; omega), List.getElem?_eq_getElem (by have := HLX.out; omega)⟩
      obtain ⟨g1, rfl, e1⟩ := q7 k x hxk
      obtain ⟨g2, off, rfl, e2⟩ := came_at (came_below hc hB) hxk
      have c1 := (hB.cell (p := ⟨g1, k, none⟩) (cell_lt e1)).trans e1
      have i1 : (k : Int) < (n : Int) := by omega
      clear q7 e1 hxk hc
      go_wp2
      go_quiet (fail)
      go_wp2
      go_roundw
      case rel => exact ⟨k + 1, by omega, by go_num, below_drewN hB _⟩
      case measure => simp [intOf]; omega
    · replace hA := hA.trans (hB.mono hA.size)
      clear hc q7
      go_wp2_with (first
        | (go_at_call 21; (with_reducible refine (ha _).mono ?_); rintro e w4 ⟨rfl, hB⟩; replace hA := below_chain hA hB; clear hB)
        | (go_at_call 23; refine (bad_any s _ hs').mono ?_; rintro e w6 ⟨rfl, hB⟩; rw [HB.out]; replace hA := below_chain hA hB; clear hB))
      go_ret
      exact ⟨rfl, hA⟩
theorem runesBack_in (w : World) (a : Option Addr) (n cap : Nat) (ls : List Int) (s : ByteArray) (hc : Came w a n cap ls) (hn : n ≤ 1048576) (hs : s.size ≤ 1048576) :
    Calls Try.prog 7 #[.slice a n cap, .string s] w fun e w' => e = .returned (.bool true) ∧ Below w.heap.size w w' := by
  cases hl : ls.all isChar with
  | true =>
    rcases text_cases s with ⟨xs, hx, he, _⟩ | hb
    · exact back_gg w a n cap ls s xs hc hn hl hx he hs
    · exact back_gn w a n cap ls s hc hn hl hb hs
  | false =>
    rcases text_cases s with ⟨xs, hx, he, _⟩ | hb
    · exact back_ng w a n cap ls s xs hc hn hl hx he hs
    · exact back_nn w a n cap ls s hc hn hl hb hs
end Go.Proofs.Ytmlaefdfpekhcaa
