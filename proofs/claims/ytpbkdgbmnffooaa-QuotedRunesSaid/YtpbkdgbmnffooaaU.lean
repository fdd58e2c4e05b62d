/-
  Layer 6: the document's item.
-/
import Derived.Test.YtpbkdgbmnffooaaT
namespace Go.Proofs.Ytpbkdgbmnffooaa
open Go.ChangeShapes Go.WideShapes Go.ChangeAt Go.RowKit

/-- an item at a place: what it says, how many bytes it has -/
def docItem (m c : UInt8) (t : List UInt8) : Option (List UInt8 × Nat) :=
  if c = 92 then escOf m 1 t else if c = 10 then none else if m = 34 then some ([c], 1) else if wide (c :: t) = 0 then none else some ((c :: t).take (wide (c :: t)), wide (c :: t))
theorem fresh_row (w : World) (o : Obj) : (w.alloc o).heap[w.heap.size]? = some o := by
  show (w.heap.push _)[w.heap.size]? = _; simp
set_option maxRecDepth 100000 in
set_option maxHeartbeats 4000000 in
theorem docitem_any (s : ByteArray) (hs : s.size ≤ 140737488351232) (k : Nat) (hk : k < s.size) (m : UInt8) (hm : m = 39 ∨ m = 34) (w : World) :
    Calls Try.prog 29 #[.string s, .int .i64 k, .int .u8 m.toNat] w fun e w' => e = .returned (item (docItem m s[k] (s.data.toList.drop (k + 1)))) ∧ Below w.heap.size w w' := by
  have d1 : (k : Int) < s.size := by omega
  have d2 : (0 : Int) ≤ k := by omega
  have b92 := bytes_n s[k] 92 92 rfl
  have b10 := bytes_n s[k] 10 10 rfl
  have HB0 := Lib.hid ((Below.refl w.heap.size w).alloc (Nat.le_refl _) (.cells #[.int .i64 0, .string ⟨#[]⟩] 56))
  have HR := Lib.hid (fresh_row w (.cells #[.int .i64 0, .string ⟨#[]⟩] 56))
  by_cases h92 : s[k] = 92
  · have he : docItem m s[k] (s.data.toList.drop (k + 1)) = escOf m 1 (s.data.toList.drop (k + 1)) := by unfold docItem; rw [if_pos h92]
    rw [he]
    have hes := fun w => docesc_any s hs k hk m hm w
    obtain ⟨A, hA⟩ : ∃ A, A = escOf m 1 (s.data.toList.drop (k + 1)) := ⟨_, rfl⟩
    rw [← hA] at hes ⊢
    rw [decide_eq_true h92] at b92
    clear he hA b10 h92
    cases A with
    | none =>
      go_enter Try.func29, Try.ntmps29
      go_wp2_with (first
        | (go_at_call 34; refine (hes _).mono ?_; rintro e w2 ⟨he, hB2⟩; have he' : e = .returned (.agg #[.int .i64 0, .string ⟨#[]⟩]) := he; clear he; subst he'; have HX := Lib.hid (row_below HR.out hB2 (by simp)); have HXB := Lib.hid (HB0.out.trans (hB2.mono (by simp))); clear hB2)
        | refine wpList_store_rowTo rfl 56 (.tmp 6) (.tmp 15) rfl rfl w.heap.size #[.int .i64 0, .string ⟨#[]⟩] rfl rfl 56 #[.int .i64 0, .string ⟨#[]⟩] HX.out info56 rfl (by simp [Value.oneCell']) ?_)
      go_wp2
      exact bodyPost_ret (v := .agg #[.int .i64 0, .string ⟨#[]⟩]) (results_cell_row rfl _ _ w.heap.size 56 _ (0, 0) _ rfl (setRow_at HX.out) Try.underlying56 rfl info56) rfl ⟨rfl, below_setRow HXB.out (Nat.le_refl _) _⟩
    | some x =>
      obtain ⟨L, n⟩ := x
      go_enter Try.func29, Try.ntmps29
      go_wp2_with (first
        | (go_at_call 34; refine (hes _).mono ?_; rintro e w2 ⟨he, hB2⟩; have he' : e = .returned (.agg #[.int .i64 n, .string ⟨L.toArray⟩]) := he; clear he; subst he'; have HX := Lib.hid (row_below HR.out hB2 (by simp)); have HXB := Lib.hid (HB0.out.trans (hB2.mono (by simp))); clear hB2)
        | refine wpList_store_rowTo rfl 56 (.tmp 6) (.tmp 15) rfl rfl w.heap.size #[.int .i64 n, .string ⟨L.toArray⟩] rfl rfl 56 #[.int .i64 0, .string ⟨#[]⟩] HX.out info56 rfl (by simp [Value.oneCell']) ?_)
      go_wp2
      exact bodyPost_ret (v := .agg #[.int .i64 n, .string ⟨L.toArray⟩]) (results_cell_row rfl _ _ w.heap.size 56 _ (0, 0) _ rfl (setRow_at HX.out) Try.underlying56 rfl info56) rfl ⟨rfl, below_setRow HXB.out (Nat.le_refl _) _⟩
  rw [decide_eq_false h92] at b92
  by_cases h10 : s[k] = 10
  · have he : docItem m s[k] (s.data.toList.drop (k + 1)) = none := by unfold docItem; rw [if_neg h92, if_pos h10]
    rw [he]
    rw [decide_eq_true h10] at b10
    clear he h10 h92
    go_enter Try.func29, Try.ntmps29
    go_wp2_with (refine wpList_store_rowTo rfl 56 (.tmp 6) (.tmp 20) rfl rfl w.heap.size #[.int .i64 0, .string ⟨#[]⟩] rfl rfl 56 #[.int .i64 0, .string ⟨#[]⟩] HR.out info56 rfl (by simp [Value.oneCell']) ?_)
    go_wp2
    exact bodyPost_ret (v := .agg #[.int .i64 0, .string ⟨#[]⟩]) (results_cell_row rfl _ _ w.heap.size 56 _ (0, 0) _ rfl (setRow_at HR.out) Try.underlying56 rfl info56) rfl ⟨rfl, below_setRow HB0.out (Nat.le_refl _) _⟩
  rw [decide_eq_false h10] at b10
  rcases hm with rfl | rfl
  · obtain ⟨n, hn⟩ : ∃ n, n = wide (s.data.toList.drop k) := ⟨_, rfl⟩
    have hwl := wide_le (s.data.toList.drop k)
    rw [← hn, List.length_drop, show s.data.toList.length = s.size by simp] at hwl
    have he : item (docItem 39 s[k] (s.data.toList.drop (k + 1))) = .agg #[.int .i64 n, .string (s.extract k (k + n))] := by
      unfold docItem
      rw [if_neg h92, if_neg h10, if_neg (by decide), ← drop_at s k hk, ← hn]
      have hx : s.extract k (k + n) = ⟨((s.data.toList.drop k).take n).toArray⟩ := by
        apply ba_of_list
        rw [← ByteArray.toList_eq, extract_list, List.drop_take]; congr 1; omega
      rw [hx]
      by_cases h : n = 0
      · rw [if_pos h, h]; rfl
      · rw [if_neg h]; rfl
    rw [he]
    have hrd := fun w => rread_in s k w (by unfold maxLen; omega) hk
    rw [← hn] at hrd
    obtain ⟨c, hc⟩ : ∃ c, c = chr (s.data.toList.drop k) := ⟨_, rfl⟩
    rw [← hc] at hrd
    have hsl := fun w => slice_run s k n _ rfl (by omega) w
    obtain ⟨X, hX⟩ : ∃ X, X = s.extract k (k + n) := ⟨_, rfl⟩
    rw [← hX] at hsl ⊢
    clear hn he h92 h10 hc hX
    go_enter Try.func29, Try.ntmps29
    go_wp2_with (first
      | (go_at_call 35; refine (hrd _).mono ?_; rintro e w2 ⟨rfl, hB2⟩; have HX := Lib.hid (row_below HR.out hB2 (by simp)); have HXB := Lib.hid (HB0.out.trans (hB2.mono (by simp))); clear hB2)
      | refine wpList_store_rowTo rfl 56 (.tmp 6) (.tmp 36) rfl rfl w.heap.size #[.int .i64 n, .string X] rfl rfl 56 #[.int .i64 0, .string ⟨#[]⟩] HX.out info56 rfl (by simp [Value.oneCell']) ?_)
    go_wp2
    exact bodyPost_ret (v := .agg #[.int .i64 n, .string X]) (results_cell_row rfl _ _ w.heap.size 56 _ (0, 0) _ rfl (setRow_at HX.out) Try.underlying56 rfl info56) rfl ⟨rfl, below_setRow HXB.out (Nat.le_refl _) _⟩
  · have he : docItem 34 s[k] (s.data.toList.drop (k + 1)) = some ([s[k]], 1) := by unfold docItem; rw [if_neg h92, if_neg h10, if_pos rfl]
    rw [he]
    have hsl : ∀ w, (Instr.slice 9 (.string s) (some (.int .i64 (k : Int))) (some (.int .i64 ((k : Int) + 1))) none).run Try.prog w = .ok (.string ⟨#[s[k]]⟩) w := by
      intro w
      have h := slice_run s k 1 ((k : Int) + 1) rfl (by omega) w
      have hx : s.extract k (k + 1) = ⟨#[s[k]]⟩ := by
        refine ba_of_list (l := [s[k]]) ?_
        rw [← ByteArray.toList_eq, extract_list, List.drop_take, drop_at s k hk]; simp
      rw [hx] at h
      exact h
    clear he h92 h10
    go_enter Try.func29, Try.ntmps29
    go_wp2_with (refine wpList_store_rowTo rfl 56 (.tmp 6) (.tmp 36) rfl rfl w.heap.size #[.int .i64 1, .string ⟨#[s[k]]⟩] rfl rfl 56 #[.int .i64 0, .string ⟨#[]⟩] HR.out info56 rfl (by simp [Value.oneCell']) ?_)
    go_wp2
    exact bodyPost_ret (v := .agg #[.int .i64 1, .string ⟨#[s[k]]⟩]) (results_cell_row rfl _ _ w.heap.size 56 _ (0, 0) _ rfl (setRow_at HR.out) Try.underlying56 rfl info56) rfl ⟨rfl, below_setRow HB0.out (Nat.le_refl _) _⟩
end Go.Proofs.Ytpbkdgbmnffooaa
