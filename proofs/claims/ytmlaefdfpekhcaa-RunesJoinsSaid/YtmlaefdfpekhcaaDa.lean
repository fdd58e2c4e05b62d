/-
  runes.Join and the statement RunesJoins, for slices as long as may be.
-/
import Derived.Test.YtmlaefdfpekhcaaAa
namespace Go.Proofs.Ytmlaefdfpekhcaa
open Go.ChangeShapes Go.WideShapes Go.ChangeAt Go.RowKit

set_option maxHeartbeats 2000000 in
theorem join_good_big (w : World) (v : Value) (xs : List Int) (hr : Reads .i32 w v xs) (hx : allChar xs) (hlen : xs.length ≤ 35184372087808) :
    Calls Try.prog 26 #[v] w fun e w' => e = .returned (.tuple #[.string ⟨(bytes xs).toArray⟩, .bool true]) ∧ Below w.heap.size w w' := by
  obtain ⟨a, cap, rfl, hc⟩ := hr
  obtain ⟨n, hn⟩ : ∃ n, n = xs.length := ⟨_, rfl⟩
  rw [← hn] at hlen ⊢
  have HN := Lib.hid hn
  clear hn
  go_enter Try.func26, Try.ntmps26
  go_wp2
  go_loopw [9] (fun i wr => ∃ k : Nat, k ≤ n ∧ i = .int .i64 k ∧ Lib.IsBuilder 60 5 w.heap.size w.heap.size (Lib.byteCells (bytes (xs.take k))) wr ∧ Below w.heap.size w wr) (fun i _ => n - (intOf i).toNat)
  case atStart => exact ⟨0, Nat.zero_le _, rfl, Lib.fresh_isBuilder 60 5 w, (Below.refl _ w).alloc (Nat.le_refl _) _⟩
  case round =>
    obtain ⟨k, hk, rfl, hI, hB⟩ := hrel
    have hbs := hB.size
    by_cases hlt : k < n
    · obtain ⟨x, hxk⟩ : ∃ x, xs[k]? = some x := ⟨xs[k]'(by have := HN.out; omega), List.getElem?_eq_getElem (by have := HN.out; omega)⟩
      have hxc : isChar x = true := hx x (List.mem_of_getElem? hxk)
      have HX := Lib.hid hxc
      obtain ⟨g, rfl, e1⟩ := hc k x hxk
      have c1 := (hB.cell (p := ⟨g, k, none⟩) (cell_lt e1)).trans e1
      have i1 : (k : Int) < (n : Int) := by omega
      have hfl := form_len x hxc
      have htl : (bytes (xs.take k)).length ≤ 4 * k := by
        have h1 := bytes_len (xs.take k) (fun y hy => hx y (List.mem_of_mem_take hy))
        have h2 : (xs.take k).length ≤ k := List.length_take_le _ _
        omega
      have hlb : (Lib.byteCells (bytes (xs.take k))).length + (⟨(form x).toArray⟩ : ByteArray).size ≤ 140737488355328 := by
        have h1 : (⟨(form x).toArray⟩ : ByteArray).size = (form x).length := rfl
        rw [Lib.byteCells_length, h1]; omega
      have hst : Lib.byteCells (bytes (xs.take (k + 1))) = Lib.byteCells (bytes (xs.take k)) ++ Lib.strCells ⟨(form x).toArray⟩ := by
        obtain ⟨h3, h4⟩ := List.getElem?_eq_some_iff.mp hxk
        rw [List.take_succ_eq_append_getElem h3, h4, bytes_append, bytes_one, Lib.byteCells_append]; rfl
      have HST := Lib.hid hst
      clear hc e1 hxk hxc hfl htl hst
      go_wp2_with (first
        | (go_at_call 44; refine (character_any x _).mono ?_; rintro e w1 ⟨rfl, rfl⟩; rw [HX.out])
        | (go_at_call 18; refine (form_any x _).mono ?_; rintro e w2 ⟨rfl, rfl⟩)
        | (go_at_call 45; refine (writeString_any _ _ _ _ _ hI hlb hbs).mono ?_; rintro e w3 ⟨rfl, hI3, hB3⟩))
      go_roundw
      case rel => exact ⟨k + 1, by omega, by go_num, by rw [HST.out]; exact .inr hI3, hB.trans hB3⟩
      case measure => simp [intOf]; omega
    · have hke : k = n := by omega
      subst hke
      rw [HN.out, List.take_length] at hI
      go_wp2_with (first
        | (go_at_call 46; refine (Try.Builder_String_any _ _ _ _ hI hbs).mono ?_; rintro e w4 ⟨rfl, hB4⟩))
      go_ret2
      exact ⟨rfl, hB.trans hB4⟩
set_option maxHeartbeats 2000000 in
theorem join_bad_big (w : World) (v : Value) (xs : List Int) (hr : Reads .i32 w v xs) (hx : ¬ allChar xs) (hlen : xs.length ≤ 35184372087808) :
    Calls Try.prog 26 #[v] w fun e w' => e = .returned (.tuple #[.string ⟨#[]⟩, .bool false]) ∧ Below w.heap.size w w' := by
  obtain ⟨kb, xb, hb1, hb2, hb3⟩ := first_bad xs hx
  obtain ⟨a, cap, rfl, hc⟩ := hr
  obtain ⟨n, hn⟩ : ∃ n, n = xs.length := ⟨_, rfl⟩
  rw [← hn] at hlen ⊢
  have hkb : kb < n := by rw [hn]; exact (List.getElem?_eq_some_iff.mp hb1).1
  have HB := Lib.hid (And.intro hb1 (And.intro hb2 hb3))
  have HN := Lib.hid hn
  clear hn hb1 hb2 hb3 hx
  go_enter Try.func26, Try.ntmps26
  go_wp2
  go_loopw [9] (fun i wr => ∃ k : Nat, k ≤ kb ∧ i = .int .i64 k ∧ Lib.IsBuilder 60 5 w.heap.size w.heap.size (Lib.byteCells (bytes (xs.take k))) wr ∧ Below w.heap.size w wr) (fun i _ => n - (intOf i).toNat)
  case atStart => exact ⟨0, Nat.zero_le _, rfl, Lib.fresh_isBuilder 60 5 w, (Below.refl _ w).alloc (Nat.le_refl _) _⟩
  case round =>
    obtain ⟨k, hk, rfl, hI, hB⟩ := hrel
    have hbs := hB.size
    obtain ⟨x, hxk⟩ : ∃ x, xs[k]? = some x := ⟨xs[k]'(by have := HN.out; omega), List.getElem?_eq_getElem (by have := HN.out; omega)⟩
    obtain ⟨g, rfl, e1⟩ := hc k x hxk
    have c1 := (hB.cell (p := ⟨g, k, none⟩) (cell_lt e1)).trans e1
    have i1 : (k : Int) < (n : Int) := by omega
    by_cases hke : k = kb
    · have hxb : isChar x = false := by
        subst hke
        have := HB.out.1
        rw [hxk] at this
        cases this
        exact HB.out.2.1
      have HX := Lib.hid hxb
      clear hc e1 hxk hxb hke
      go_wp2_with (first
        | (go_at_call 44; refine (character_any x _).mono ?_; rintro e w1 ⟨rfl, rfl⟩; rw [HX.out]))
      go_ret2
      exact ⟨rfl, hB⟩
    · have hklt : k < kb := by omega
      have hxc : isChar x = true := HB.out.2.2 x (by
        have h1 := List.mem_of_getElem? (l := xs.take kb) (i := k) (a := x) (by rw [List.getElem?_take_of_lt hklt]; exact hxk)
        exact h1)
      have HX := Lib.hid hxc
      have hfl := form_len x hxc
      have htl : (bytes (xs.take k)).length ≤ 4 * k := by
        have h0 : xs.take k = (xs.take kb).take k := by rw [List.take_take]; congr 1; omega
        have h1 := bytes_len (xs.take k) (fun y hy => HB.out.2.2 y (by rw [h0] at hy; exact List.mem_of_mem_take hy))
        have h2 : (xs.take k).length ≤ k := List.length_take_le _ _
        omega
      have hlb : (Lib.byteCells (bytes (xs.take k))).length + (⟨(form x).toArray⟩ : ByteArray).size ≤ 140737488355328 := by
        have h1 : (⟨(form x).toArray⟩ : ByteArray).size = (form x).length := rfl
        rw [Lib.byteCells_length, h1]; omega
      have hst : Lib.byteCells (bytes (xs.take (k + 1))) = Lib.byteCells (bytes (xs.take k)) ++ Lib.strCells ⟨(form x).toArray⟩ := by
        obtain ⟨h3, h4⟩ := List.getElem?_eq_some_iff.mp hxk
        rw [List.take_succ_eq_append_getElem h3, h4, bytes_append, bytes_one, Lib.byteCells_append]; rfl
      have HST := Lib.hid hst
      clear hc e1 hxk hxc hfl htl hst hke
      go_wp2_with (first
        | (go_at_call 44; refine (character_any x _).mono ?_; rintro e w1 ⟨rfl, rfl⟩; rw [HX.out])
        | (go_at_call 18; refine (form_any x _).mono ?_; rintro e w2 ⟨rfl, rfl⟩)
        | (go_at_call 45; refine (writeString_any _ _ _ _ _ hI hlb hbs).mono ?_; rintro e w3 ⟨rfl, hI3, hB3⟩))
      go_roundw
      case rel => exact ⟨k + 1, by omega, by go_num, by rw [HST.out]; exact .inr hI3, hB.trans hB3⟩
      case measure => simp [intOf]; omega
theorem append_came_big {w : World} {ops : Array Oper} {rest : List Oper} {o : Oper} {a : Act} {Q : Exit → Act → World → Prop} (hgd : o.guard = none) (s x : Operand)
    (ho : o.op = .call { callee := .builtin .append, args := #[s, x], argTypes := #[32, 32] })
    (base : Nat) (v : Value) (n : Nat) (vs : List Value) (hs : a.eval s = v) (hown : w.ownsRow base 21 1 v n vs)
    (A : Option Addr) (m c : Nat) (xs : List Int) (hx : a.eval x = .slice A m c) (hc : Came w A m c xs) (hb : n + m ≤ 35184372087808) (hbase : base ≤ w.heap.size)
    (h : ∀ v' w', w'.ownsRow base 21 1 v' (n + m) (vs ++ xs.map (Value.int .i32)) → w.grownBy w' v.ownBlock → wpList Try.prog ops Q rest (a.put o.dst v') w') : wpList Try.prog ops Q (o :: rest) a w := by
  obtain ⟨i0, hi, hz0, hz1, hz2⟩ := info_parts info21
  obtain ⟨hl, hc⟩ := hc
  rcases hc with ⟨rfl, rfl, rfl⟩ | ⟨ad, rfl, hcell⟩
  · have hx0 : xs = [] := List.length_eq_zero_iff.1 hl
    subst hx0
    have hown0 : w.ownsRow base 21 i0.size v n vs := by rw [hz1]; exact hown
    refine wpList_append_own_none hgd s x 32 ho base 21 i0 i0.size Try.underlying32 hi v n vs hs hown0 hx (h v w ?_ (World.grownBy.refl w _))
    simpa using hown
  · refine wpList_append_own w hgd s x 32 ho base 21 i0 (.int .i32 0) 1 4 Try.underlying32 hi hz0 hz1 hz2 rfl (by decide) v n vs hs hown ad m c (xs.map (Value.int .i32)) hx (by simp [hl]) ?_ ?_ (by unfold maxLen; omega) (by omega) hbase (fun v' w' h1 h2 _ => h v' w' h1 h2)
    · intro j u hj
      rw [List.getElem?_map, Option.map_eq_some_iff] at hj
      obtain ⟨y, hy, rfl⟩ := hj
      obtain ⟨g, off, rfl, _, hc⟩ := hcell j y hy
      rw [add_at]
      exact hc
    · intro u hu
      obtain ⟨y, _, rfl⟩ := List.mem_map.1 hu
      rfl
theorem join_any_big (w : World) (v : Value) (xs : List Int) (hr : Reads .i32 w v xs) (hlen : xs.length ≤ 35184372087808) :
    Calls Try.prog 26 #[v] w fun e w' => e = .returned (.tuple #[.string ⟨(joined xs).toArray⟩, .bool (xs.all isChar)]) ∧ Below w.heap.size w w' := by
  unfold joined
  cases h : xs.all isChar with
  | true => rw [if_pos rfl]; exact join_good_big w v xs hr ((allChar_iff xs).1 h) hlen
  | false =>
    rw [if_neg (by simp)]
    exact join_bad_big w v xs hr (fun h2 => by rw [(allChar_iff xs).2 h2] at h; cases h) hlen
set_option maxRecDepth 100000 in
set_option maxHeartbeats 4000000 in
theorem runesJoins_big (w : World) (a : Option Addr) (n cap : Nat) (xs : List Int) (hc : Came w a n cap xs) (hn : n ≤ 35184372087808) (hw : ∀ x ∈ xs, -2147483648 ≤ x ∧ x ≤ 2147483647) :
    Calls Try.prog 6 #[.slice a n cap] w fun e w' => e = .returned (.bool true) ∧ Below w.heap.size w w' := by
  have hl := hc.1
  have HLX := Lib.hid hl
  clear hl
  obtain ⟨f, hf⟩ : ∃ f, f = xs.all isChar := ⟨_, rfl⟩
  obtain ⟨S, hS⟩ : ∃ S : ByteArray, S = ⟨(joined xs).toArray⟩ := ⟨_, rfl⟩
  have hj := fun w v hr => join_any_big w v xs hr (by have := HLX.out; omega)
  rw [← hf] at hj
  simp only [← hS] at hj
  have HF := Lib.hid (And.intro hf hS)
  clear hf hS
  have hBm : Below w.heap.size w (w.alloc (.cells #[] 21)) := (Below.refl _ w).alloc (Nat.le_refl _) _
  have hcm := came_below hc hBm
  have hom := owns_made w
  have hA : Below w.heap.size w w := Below.refl _ _
  go_enter Try.func6, Try.ntmps6
  go_wp2_with (first
    | (at_builtin; refine append_came_big rfl _ _ rfl w.heap.size _ 0 [] rfl hom a n cap xs rfl hcm (by omega) (by simp) ?_)
    | (go_at_call 26; refine (hj _ _ hrd).mono ?_; rintro e w2 ⟨rfl, hB2⟩))
  intro v' w1 hown1 hg1
  have hB1 : Below w.heap.size w w1 := hBm.grown hg1 (by simp) (fun q hq => by simp [Value.ownBlock] at hq; omega)
  have hrd : Reads .i32 w1 v' xs := by
    exact reads_of (xs := xs) (by rw [HLX.out]; exact hown1)
  have hc1 := came_below hc hB1
  clear hown1 hg1 hcm hom hBm hc hA
  go_wp2_with (first
    | (go_at_call 26; refine (hj _ _ hrd).mono ?_; rintro e w2 ⟨rfl, hB2⟩))
  have hc2 := came_below hc1 hB2
  have hA := below_chain hB1 hB2
  clear hc1 hB1 hB2 hrd hj
  go_loopw [5, 6, 7] (fun t f' i wr => ∃ k : Nat, k ≤ n ∧ k ≤ 3000 ∧ i = .int .i64 k ∧ t = .string ⟨(bytes (xs.take k)).toArray⟩ ∧ f' = .bool ((xs.take k).all isChar) ∧ Below w2.heap.size w2 wr) (fun _ _ i _ => n - (intOf i).toNat)
  case atStart => exact ⟨0, Nat.zero_le _, by omega, rfl, rfl, rfl, Below.refl _ _⟩
  case round =>
    obtain ⟨k, hk, hk3, rfl, rfl, rfl, hB⟩ := hrel
    obtain ⟨t, ht⟩ : ∃ t : ByteArray, t = ⟨(bytes (xs.take k)).toArray⟩ := ⟨_, rfl⟩
    obtain ⟨f', hf'⟩ : ∃ f', f' = (xs.take k).all isChar := ⟨_, rfl⟩
    rw [← ht, ← hf']
    have hts : t.size ≤ 4194304 := by
      have h1 := bytes_le4 (xs.take k)
      have h2 : (xs.take k).length ≤ k := List.length_take_le _ _
      have h3 : t.size = (bytes (xs.take k)).length := by rw [ht]; rfl
      omega
    have HT := Lib.hid (And.intro ht hf')
    clear ht hf'
    by_cases hlt : k < n ∧ k < 3000
    · obtain ⟨hlt, hlt3⟩ := hlt
      obtain ⟨x, hxk⟩ : ∃ x, xs[k]? = some x := ⟨xs[k]'(by have := HLX.out; omega), List.getElem?_eq_getElem (by have := HLX.out; omega)⟩
      obtain ⟨b1, b2⟩ := hw x (List.mem_of_getElem? hxk)
      have hcr := came_below hc2 hB
      obtain ⟨g, off, rfl, c1⟩ := came_at hcr hxk
      have c1' : wr.cell? ⟨g, off + k, none⟩ = some (.int .i32 x) := c1
      obtain ⟨z, hz⟩ : ∃ z, z = isChar x := ⟨_, rfl⟩
      have hfl : (⟨(form x).toArray⟩ : ByteArray).size ≤ 4 := by
        have h1 : (⟨(form x).toArray⟩ : ByteArray).size = (form x).length := rfl
        have h2 := bytes_le4 [x]
        rw [bytes_one] at h2
        simp at h2
        omega
      have hmay := fun w => may_any x w
      rw [← hz] at hmay
      have HZ := Lib.hid (And.intro hz hxk)
      clear hz hxk hcr
      cases f' <;> cases z
      all_goals
        go_wp2_with (first
          | (go_at_call 20; refine (hmay _).mono ?_; rintro e w3 ⟨rfl, rfl⟩)
          | (go_at_call 19; refine (rform_any x _).mono ?_; rintro e w4 ⟨rfl, hB4⟩))
        go_roundw
        case rel =>
          refine ⟨k + 1, by omega, by omega, by go_num, ?_, ?_, hB.trans (hB4.mono hB.size)⟩
          · rw [HT.out.1, bytes_take_any xs k x HZ.out.2]; congr 1
          · rw [all_take xs k x HZ.out.2, ← HT.out.2, ← HZ.out.1]; rfl
        case measure => simp [intOf]; omega
    · have hA2 := hA.trans (hB.mono hA.size)
      by_cases h3 : 3000 < n
      · have hk0 : k = 3000 := by omega
        subst hk0
        clear hlt
        go_wp2_with (first
          | (go_at_call 17; refine (fixed1_any _).mono ?_; rintro e w5 ⟨rfl, hB5⟩))
        go_ret
        exact ⟨rfl, below_chain hA2 hB5⟩
      · have hk0 : k = n := by omega
        subst hk0
        have hff : f' = f := by rw [HT.out.2, HF.out.1]; congr 1; exact List.take_of_length_le (by have := HLX.out; omega)
        have htx : t = ⟨(bytes xs).toArray⟩ := by rw [HT.out.1]; congr 3; exact List.take_of_length_le (by have := HLX.out; omega)
        subst hff
        clear hlt
        cases hf0 : f' with
        | true =>
          have hSt : S = t := by
            rw [htx, HF.out.2]; unfold joined
            rw [if_pos (by rw [← HF.out.1, hf0])]
          subst hSt
          subst hf0
          clear htx
          go_wp2_with (first
            | (go_at_call 17; refine (fixed1_any _).mono ?_; rintro e w5 ⟨rfl, hB5⟩))
          go_ret
          exact ⟨rfl, below_chain hA2 hB5⟩
        | false =>
          have hSe : S = ⟨#[]⟩ := by
            rw [HF.out.2]; unfold joined
            rw [if_neg (by rw [← HF.out.1, hf0]; simp)]
          subst hSe
          subst hf0
          clear htx
          go_wp2_with (first
            | (go_at_call 17; refine (fixed1_any _).mono ?_; rintro e w5 ⟨rfl, hB5⟩))
          go_ret
          exact ⟨rfl, below_chain hA2 hB5⟩
end Go.Proofs.Ytmlaefdfpekhcaa
