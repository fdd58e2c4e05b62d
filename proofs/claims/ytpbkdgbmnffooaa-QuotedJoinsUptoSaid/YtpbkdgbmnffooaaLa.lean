/-
  Layer 6: the laws QuotedQuotes, QuotedJoins, QuotedFound, QuotedRaw: the walks.
-/
import Derived.Test.YtpbkdgbmnffooaaZ
import Derived.Test.YtpbkdgbmnffooaaMb
namespace Go.Proofs.Ytpbkdgbmnffooaa
open Go.ChangeShapes Go.WideShapes Go.ChangeAt Go.RowKit

theorem quoteOf_len (l : List UInt8) : (quoteOf l).length ≤ 4 * l.length + 2 := by
  have := qbs_len l
  unfold quoteOf
  simp; omega
set_option maxHeartbeats 4000000 in
theorem quotes_any (s : ByteArray) (hs : s.size ≤ 1048576) (w : World) :
    Calls Try.prog 5 #[.string s] w fun e w' => e = .returned (.bool true) ∧ Below w.heap.size w w' := by
  have h1 := fun w => quote_any s (by omega) w
  have h2 := fun w => rquote_any s (by omega) w
  obtain ⟨Q, hQ⟩ : ∃ Q : ByteArray, Q = ⟨(quoteOf s.data.toList).toArray⟩ := ⟨_, rfl⟩
  have hQl : Q.data.toList = quoteOf s.data.toList := by rw [hQ]
  have hqs : Q.size ≤ 8388608 := by
    have h := quoteOf_len s.data.toList
    rw [← hQl] at h
    simp at h
    omega
  have h3 : ∀ w, Calls Try.prog 13 #[.string Q] w fun e w' => e = .returned (.tuple #[.string s, .int .i64 0]) ∧ Below w.heap.size w w' := fun w => by
    have h := value_any Q (by omega) w
    rw [hQl, quote_value] at h
    exact h
  have h4 : ∀ w, Calls Try.prog 10 #[.string (Q ++ ⟨#[34]⟩), .int .i64 0] w fun e w' => e = .returned (.tuple #[.int .u8 7, .int .i64 Q.size, .int .i64 0]) ∧ Below w.heap.size w w' := fun w => by
    have hz : (Q ++ (⟨#[34]⟩ : ByteArray)).size = Q.size + 1 := by simp; rfl
    have h := scan_any (Q ++ ⟨#[34]⟩) (by omega) 0 w
    have hx : (Q ++ (⟨#[34]⟩ : ByteArray)).data.toList = quoteOf s.data.toList ++ [34] := by simp [hQl]
    rw [hx, quote_scan, ← hQl] at h
    have : Q.data.toList.length = Q.size := by simp
    rw [this] at h
    exact h
  rw [← hQ] at h1 h2
  clear hQ hQl
  go_enter Try.func5, Try.ntmps5
  go_wp2_with (first
    | (go_at_call 15; refine (h1 _).mono ?_; rintro e w1 ⟨rfl, hA⟩)
    | (go_at_call 13; refine (h3 _).mono ?_; rintro e w1 ⟨rfl, hB⟩; replace hA := hA.trans (hB.mono hA.size); clear hB)
    | (go_at_call 10; refine (h4 _).mono ?_; rintro e w1 ⟨rfl, hB⟩; replace hA := hA.trans (hB.mono hA.size); clear hB)
    | (go_at_call 16; refine (h2 _).mono ?_; rintro e w1 ⟨rfl, hB⟩; replace hA := hA.trans (hB.mono hA.size); clear hB)
    | (go_at_call 12; refine (fixed_any _).mono ?_; rintro e w1 ⟨rfl, hB⟩; replace hA := hA.trans (hB.mono hA.size); clear hB))
  go_ret
  exact ⟨rfl, hA⟩
theorem strR_says : ∀ (f : Nat) (l L : List UInt8) (n : Nat), strR f l = some (L, n) → L.length ≤ n
  | 0, _, _, _, h => by cases h
  | f + 1, [], _, _, h => by cases h
  | f + 1, c :: t, L, n, h => by
    rw [strR_cons] at h
    split at h
    · cases h; simp
    · split at h
      · cases h
      · split at h
        · cases he : escOf 34 0 t with
          | none => rw [he] at h; cases h
          | some x =>
            rw [he] at h
            have h' : (strR f (t.drop x.2)).map (fun y => (x.1 ++ y.1, 1 + x.2 + y.2)) = some (L, n) := h
            cases hs : strR f (t.drop x.2) with
            | none => rw [hs] at h'; cases h'
            | some y =>
              rw [hs] at h'
              cases h'
              have h1 := strR_says f _ y.1 y.2 hs
              have h2 := escOf_grow (L := x.1) (k' := x.2) he
              rw [List.length_append]; omega
        · cases hs : strR f t with
          | none => rw [hs] at h; cases h
          | some y =>
            rw [hs] at h
            cases h
            have h1 := strR_says f _ y.1 y.2 hs
            rw [List.length_cons]; omega
theorem value_len {l v : List UInt8} (h : valueP l = some v) (h0 : l[0]? = some 34) : v.length ≤ l.length := by
  obtain ⟨_, K, hr⟩ := valueP_read h
  cases l with
  | nil => cases h0
  | cons c t =>
    have hc : c = 34 := by simpa using h0
    subst hc
    obtain ⟨f, j, e1, e2⟩ := str_read hr
    have := strR_says _ _ _ _ e1
    omega
set_option maxHeartbeats 4000000 in
theorem joins_any (a b : ByteArray) (ha : a.size ≤ 1048576) (hb : b.size ≤ 1048576) (w : World) :
    Calls Try.prog 6 #[.string a, .string b] w fun e w' => e = .returned (.bool true) ∧ Below w.heap.size w w' := by
  have h1 := fun w => value_any a (by omega) w
  have h2 := fun w => value_any b (by omega) w
  have t1 : True := trivial
  have la : a.data.toList.length = a.size := by simp
  have lb : b.data.toList.length = b.size := by simp
  cases hva : valueP a.data.toList with
  | none =>
    rw [hva] at h1
    obtain ⟨S, e, hr⟩ : ∃ (S : ByteArray) (e : Int), valueAns (valueP b.data.toList) = .tuple #[.string S, .int .i64 e] := by
      cases valueP b.data.toList with
      | none => exact ⟨_, _, rfl⟩
      | some L => exact ⟨_, _, rfl⟩
    rw [hr] at h2
    have h1' : ∀ w, Calls Try.prog 13 #[.string a] w fun e w' => e = .returned (.tuple #[.string ⟨#[]⟩, .int .i64 4]) ∧ Below w.heap.size w w' := h1
    clear hr hva h1
    go_enter Try.func6, Try.ntmps6
    go_wp2_with (first
      | (go_at_call 13; clear t1; refine (h1' _).mono ?_; rintro e w1 ⟨rfl, hA⟩)
      | (go_at_call 13; refine (h2 _).mono ?_; rintro e w1 ⟨rfl, hB⟩; replace hA := hA.trans (hB.mono hA.size); clear hB)
      | (go_at_call 12; refine (fixed_any _).mono ?_; rintro e w1 ⟨rfl, hB⟩; replace hA := hA.trans (hB.mono hA.size); clear hB))
    go_ret
    exact ⟨rfl, hA⟩
  | some v =>
    rw [hva] at h1
    obtain ⟨V, hV⟩ : ∃ V : ByteArray, V = ⟨v.toArray⟩ := ⟨_, rfl⟩
    have h1' : ∀ w, Calls Try.prog 13 #[.string a] w fun e w' => e = .returned (.tuple #[.string V, .int .i64 0]) ∧ Below w.heap.size w w' := by rw [hV]; exact h1
    cases hvb : valueP b.data.toList with
    | none =>
      rw [hvb] at h2
      have h2' : ∀ w, Calls Try.prog 13 #[.string b] w fun e w' => e = .returned (.tuple #[.string ⟨#[]⟩, .int .i64 4]) ∧ Below w.heap.size w w' := h2
      clear hva hvb h1 h2 hV
      go_enter Try.func6, Try.ntmps6
      go_wp2_with (first
        | (go_at_call 13; clear t1; refine (h1' _).mono ?_; rintro e w1 ⟨rfl, hA⟩)
        | (go_at_call 13; refine (h2' _).mono ?_; rintro e w1 ⟨rfl, hB⟩; replace hA := hA.trans (hB.mono hA.size); clear hB)
        | (go_at_call 12; refine (fixed_any _).mono ?_; rintro e w1 ⟨rfl, hB⟩; replace hA := hA.trans (hB.mono hA.size); clear hB))
      go_ret
      exact ⟨rfl, hA⟩
    | some u =>
      rw [hvb] at h2
      obtain ⟨U, hU⟩ : ∃ U : ByteArray, U = ⟨u.toArray⟩ := ⟨_, rfl⟩
      have h2' : ∀ w, Calls Try.prog 13 #[.string b] w fun e w' => e = .returned (.tuple #[.string U, .int .i64 0]) ∧ Below w.heap.size w w' := by rw [hU]; exact h2
      have pa : 0 < a.size := by
        obtain ⟨hm, _⟩ := valueP_read hva
        rw [← la]
        cases hx : a.data.toList with
        | nil => rw [hx] at hm; cases hm
        | cons => simp
      have pb : 0 < b.size := by
        obtain ⟨hm, _⟩ := valueP_read hvb
        rw [← lb]
        cases hx : b.data.toList with
        | nil => rw [hx] at hm; cases hm
        | cons => simp
      have pa' : (0 : Int) < a.size := by omega
      have pb' : (0 : Int) < b.size := by omega
      have ba := bytes_n a[0] 34 34 rfl
      have bb := bytes_n b[0] 34 34 rfl
      by_cases ga : a[0] = 34
      · rw [decide_eq_true ga] at ba
        have ba' : ((a[0].toNat : Int) != 34) = false := by rw [bne, ba]; rfl
        by_cases gb : b[0] = 34
        · rw [decide_eq_true gb] at bb
          have bb' : ((b[0].toNat : Int) != 34) = false := by rw [bne, bb]; rfl
          have hj := joins_plain hva hvb (by rw [at_of a 0 pa, ga]) (by rw [at_of b 0 pb, gb])
          have za : IntKind.i64.wrap ((a.size : Int) - 1) = (a.size : Int) - 1 := by rw [IntKind.wrap_i64]; omega
          have z1 : (0 : Int) ≤ (a.size : Int) - 1 := by omega
          have z2 : (a.size : Int) - 1 ≤ (a.size : Int) := by omega
          have z3 : (1 : Int) ≤ b.size := by omega
          have h5 : ∀ w, Calls Try.prog 13 #[.string (a.extract 0 (a.size - 1) ++ b.extract 1 b.size)] w fun e w' => e = .returned (.tuple #[.string (V ++ U), .int .i64 0]) ∧ Below w.heap.size w w' := fun w => by
            have hx : (a.extract 0 (a.size - 1) ++ b.extract 1 b.size).data.toList = a.data.toList.take (a.data.toList.length - 1) ++ b.data.toList.drop 1 := by
              have e1 := extract_list a 0 (a.size - 1)
              have e2 := extract_list b 1 b.size
              rw [ByteArray.toList_eq] at e1 e2
              rw [ByteArray.data_append, Array.toList_append, e1, e2, la, List.drop_zero, List.take_of_length_le (l := b.data.toList) (by rw [lb]; exact Nat.le_refl _)]
            have hz : (a.extract 0 (a.size - 1) ++ b.extract 1 b.size).size ≤ 140737488351232 := by
              rw [ByteArray.size_append, ByteArray.size_extract, ByteArray.size_extract]; omega
            have h := value_any (a.extract 0 (a.size - 1) ++ b.extract 1 b.size) hz w
            rw [hx, hj] at h
            have hvu : V ++ U = ⟨(v ++ u).toArray⟩ := by
              apply ba_of_list
              rw [ByteArray.data_append, Array.toList_append, hV, hU]
            rw [hvu]
            exact h
          have hvs : V.size + U.size ≤ 9223372036854775807 := by
            have q1 := value_len hva (by rw [at_of a 0 pa, ga])
            have q2 := value_len hvb (by rw [at_of b 0 pb, gb])
            rw [la] at q1
            rw [lb] at q2
            have q3 : V.size = v.length := by rw [hV]; rfl
            have q4 : U.size = u.length := by rw [hU]; rfl
            omega
          clear hva hvb h1 h2 hV hU hj
          go_enter Try.func6, Try.ntmps6
          go_upto_region 5 with (first
            | (go_at_call 13; clear t1; refine (h1' _).mono ?_; rintro e w1 ⟨rfl, hA⟩)
            | (go_at_call 13; refine (h2' _).mono ?_; rintro e w1 ⟨rfl, hB⟩; replace hA := hA.trans (hB.mono hA.size); clear hB)
            | (go_at_call 12; refine (fixed_any _).mono ?_; rintro e w1 ⟨rfl, hB⟩; replace hA := hA.trans (hB.mono hA.size); clear hB))
          go_region_with (go_at_call 13; refine (h5 _).mono ?_; rintro e w1 ⟨rfl, hB⟩; replace hA := hA.drew.trans (hB.mono hA.size); clear hB)
          all_goals
            go_wp2_with fail
            go_ret
            exact ⟨rfl, hA⟩
        · rw [decide_eq_false gb] at bb
          have bb' : ((b[0].toNat : Int) != 34) = true := by rw [bne, bb]; rfl
          clear hva hvb h1 h2 hV hU
          go_enter Try.func6, Try.ntmps6
          go_wp2_with (first
            | (go_at_call 13; clear t1; refine (h1' _).mono ?_; rintro e w1 ⟨rfl, hA⟩)
            | (go_at_call 13; refine (h2' _).mono ?_; rintro e w1 ⟨rfl, hB⟩; replace hA := hA.trans (hB.mono hA.size); clear hB)
            | (go_at_call 12; refine (fixed_any _).mono ?_; rintro e w1 ⟨rfl, hB⟩; replace hA := hA.trans (hB.mono hA.size); clear hB))
          go_ret
          exact ⟨rfl, hA⟩
      · rw [decide_eq_false ga] at ba
        have ba' : ((a[0].toNat : Int) != 34) = true := by rw [bne, ba]; rfl
        clear hva hvb h1 h2 hV hU
        go_enter Try.func6, Try.ntmps6
        go_wp2_with (first
          | (go_at_call 13; clear t1; refine (h1' _).mono ?_; rintro e w1 ⟨rfl, hA⟩)
          | (go_at_call 13; refine (h2' _).mono ?_; rintro e w1 ⟨rfl, hB⟩; replace hA := hA.trans (hB.mono hA.size); clear hB)
          | (go_at_call 12; refine (fixed_any _).mono ?_; rintro e w1 ⟨rfl, hB⟩; replace hA := hA.trans (hB.mono hA.size); clear hB))
        go_ret
        exact ⟨rfl, hA⟩
end Go.Proofs.Ytpbkdgbmnffooaa
