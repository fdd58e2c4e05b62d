/-
  Layer 6: the document's escape, where the byte behind the backslash is none of the eight names.
-/
import Derived.Test.YtpbkdgbmnffooaaO
import Derived.Test.YtpbkdgbmnffooaaR
import Derived.Laws.CopyOwn
namespace Go.Proofs.Ytpbkdgbmnffooaa
open Go.ChangeShapes Go.WideShapes Go.ChangeAt Go.RowKit

theorem info56 : (Try.prog.info? 56).map (·.size) = some 2 := by kernel_rfl
theorem setRow_at {w : World} {g : Nat} {cs new : Array Value} {t : TypeId} {fr : Nat × Nat} (h : w.heap[g]? = some (.cells cs t fr)) : (w.setRow g new).heap[g]? = some (.cells new t fr) := by
  have hlt := (Array.getElem?_eq_some_iff.1 h).1
  show (w.heap.modify g _)[g]? = _
  rw [Array.getElem?_modify, if_pos rfl, h]; rfl
/-- is a byte none of the eight names? -/
def NoName (c : UInt8) : Prop := ∀ n (h : n < 8), (⟨#[97, 98, 102, 110, 114, 116, 118, 92]⟩ : ByteArray)[n]'h ≠ c
theorem noname_eq {c : UInt8} (hN : NoName c) (n : Nat) (h : n < 8) : ((((⟨#[97, 98, 102, 110, 114, 116, 118, 92]⟩ : ByteArray)[n]'h).toNat : Int) == (c.toNat : Int)) = false := by
  rw [bytes_eq]; exact decide_eq_false (hN n h)
/-- the world ahead of the loop over the names -/
def W0 (w : World) : World := (w.alloc (.cells #[.int .i64 0, .string ⟨#[]⟩] 56)).alloc (.cells #[.int .u8 7, .int .u8 8, .int .u8 12, .int .u8 10, .int .u8 13, .int .u8 9, .int .u8 11, .int .u8 92] 5)
theorem W0_size (w : World) : (W0 w).heap.size = w.heap.size + 1 + 1 := by simp [W0]
theorem W0_row (w : World) : (W0 w).heap[w.heap.size]? = some (.cells #[.int .i64 0, .string ⟨#[]⟩] 56 (0, 0)) := by
  show ((w.heap.push _).push _)[w.heap.size]? = _
  rw [Array.getElem?_push, if_neg (by simp), Array.getElem?_push, if_pos rfl]
theorem W0_below (w : World) : Below w.heap.size w (W0 w) := ((Below.refl _ w).alloc (Nat.le_refl _) _).alloc (by simp) _
theorem row_alloc {w : World} {g : Nat} {o o' : Obj} (h : w.heap[g]? = some o) : (w.alloc o').heap[g]? = some o := by
  have hlt := (Array.getElem?_eq_some_iff.1 h).1
  show (w.heap.push o')[g]? = _
  rw [Array.getElem?_push, if_neg (by omega)]; exact h
theorem row_below {w w' : World} {B g : Nat} {o : Obj} (h : w.heap[g]? = some o) (hB : Below B w w') (hg : g < B) : w'.heap[g]? = some o := by
  rw [hB.block g hg]; exact h
theorem conv_W0 (w : World) (c : UInt8) : (convert 32 9 (.slice (some ⟨w.heap.size + 1 + 1, 0, none⟩) 1 1)).run Try.prog ((W0 w).alloc (.cells #[.int .u8 (c.toNat : Int)] 5)) = .ok (.string ⟨#[c]⟩) ((W0 w).alloc (.cells #[.int .u8 (c.toNat : Int)] 5)) := by
  have h := conv_new (W0 w) [(c.toNat : Int)] _ 1 rfl rfl
  rw [W0_size] at h
  simpa using h
set_option maxRecDepth 100000 in
set_option maxHeartbeats 4000000 in
theorem docesc_mark (s : ByteArray) (hs : s.size ≤ 140737488351232) (k : Nat) (hk : k + 1 < s.size) (m : UInt8) (hm : s[k + 1] = m) (hN : NoName m) (w : World) :
    Calls Try.prog 34 #[.string s, .int .i64 k, .int .u8 m.toNat] w fun e w' => e = .returned (item (some ([m], 2))) ∧ Below w.heap.size w w' := by
  obtain ⟨K, hK⟩ : ∃ K, k + 1 = K := ⟨_, rfl⟩
  have e1 : (k : Int) + 1 = (K : Int) := by omega
  have hKs : K < s.size := by omega
  have d1 : (K : Int) < s.size := by omega
  have d2 : (0 : Int) ≤ K := by omega
  have HC := Lib.hid (show s[K] = m by subst hK; exact hm)
  have HN := Lib.hid (show NoName s[K] by rw [HC.out]; exact hN)
  clear hm hN hk
  have hcv := conv_W0 w s[K]
  unfold W0 at hcv
  go_enter Try.func34, Try.ntmps34
  go_wp2
  go_loop [10] (fun i => ∃ n : Nat, n ≤ 8 ∧ i = .int .i64 n) (fun i => 8 - (intOf i).toNat)
  case atStart => exact ⟨0, by omega, rfl⟩
  case round =>
    obtain ⟨n, hn, rfl⟩ := hrel
    by_cases hlt : n < 8
    · have q := noname_eq HN.out n hlt
      have i1 : (n : Int) < 8 := by omega
      clear hcv
      go_wp2
      go_round
      case rel => exact ⟨n + 1, by omega, by go_num⟩
      case measure => simp [intOf]; omega
    · have i1 : ¬ (n : Int) < 8 := by omega
      have q : ((s[K].toNat : Int) == (m.toNat : Int)) = true := by rw [HC.out]; simp
      have HX := Lib.hid (row_alloc (o' := .cells #[.int .u8 (s[K].toNat : Int)] 5) (W0_row w))
      have HXB := Lib.hid ((W0_below w).alloc (by rw [W0_size]; omega) (.cells #[.int .u8 (s[K].toNat : Int)] 5))
      go_wp2_with (refine wpList_store_rowTo rfl 56 (.tmp 6) (.tmp 48) rfl rfl w.heap.size #[.int .i64 2, .string ⟨#[s[K]]⟩] rfl rfl 56 #[.int .i64 0, .string ⟨#[]⟩] HX.out info56 rfl (by simp [Value.oneCell']) ?_)
      go_wp2
      exact bodyPost_ret (v := .agg #[.int .i64 2, .string ⟨#[s[K]]⟩]) (results_cell_row rfl _ _ w.heap.size 56 _ (0, 0) _ rfl (setRow_at HX.out) Try.underlying56 rfl info56) rfl ⟨by rw [HC.out]; rfl, below_setRow HXB.out (Nat.le_refl _) _⟩
set_option maxRecDepth 100000 in
set_option maxHeartbeats 4000000 in
theorem docesc_x (s : ByteArray) (hs : s.size ≤ 140737488351232) (k : Nat) (hk : k + 1 < s.size) (m : UInt8) (hm : s[k + 1] ≠ m) (hN : NoName s[k + 1]) (hc : s[k + 1] = 120) (w : World) :
    Calls Try.prog 34 #[.string s, .int .i64 k, .int .u8 m.toNat] w fun e w' => e = .returned (item ((numOf 16 2 0 (s.data.toList.drop (k + 2))).map fun nr => (smallOf nr.1 m, 4))) ∧ Below w.heap.size w w' := by
  obtain ⟨K, hK⟩ : ∃ K, k + 1 = K := ⟨_, rfl⟩
  have e1 : (k : Int) + 1 = (K : Int) := by omega
  have hKs : K < s.size := by omega
  have d1 : (K : Int) < s.size := by omega
  have d2 : (0 : Int) ≤ K := by omega
  have HN := Lib.hid (show NoName s[K] by subst hK; exact hN)
  have qm : ((s[K].toNat : Int) == (m.toNat : Int)) = false := by rw [bytes_eq]; exact decide_eq_false (by subst hK; exact hm)
  have qx : ((s[K].toNat : Int) == 120) = true := by rw [bytes_n s[K] 120 120 rfl]; exact decide_eq_true (by subst hK; exact hc)
  obtain ⟨K2, hK2⟩ : ∃ K2, k + 2 = K2 := ⟨_, rfl⟩
  have e2 : (k : Int) + 2 = (K2 : Int) := by omega
  have hnum := docnum_any s hs K2 2 16 (by omega) (by decide) (by decide) (W0 w)
  rw [hK2]
  obtain ⟨A, hA⟩ : ∃ A, A = numOf 16 2 0 (s.data.toList.drop K2) := ⟨_, rfl⟩
  rw [← hA] at hnum ⊢
  have HA := Lib.hid hA
  unfold W0 at hnum
  clear hm hN hk hA hc
  go_enter Try.func34, Try.ntmps34
  go_wp2
  go_loop [10] (fun i => ∃ n : Nat, n ≤ 8 ∧ i = .int .i64 n) (fun i => 8 - (intOf i).toNat)
  case atStart => exact ⟨0, by omega, rfl⟩
  case round =>
    obtain ⟨n, hn, rfl⟩ := hrel
    by_cases hlt : n < 8
    · have q := noname_eq HN.out n hlt
      have i1 : (n : Int) < 8 := by omega
      clear hnum
      go_wp2
      go_round
      case rel => exact ⟨n + 1, by omega, by go_num⟩
      case measure => simp [intOf]; omega
    · have i1 : ¬ (n : Int) < 8 := by omega
      have HR := Lib.hid (W0_row w)
      have HB0 := Lib.hid (W0_below w)
      cases A with
      | none =>
        go_wp2_with (first
          | (go_at_call 42; refine hnum.mono ?_; rintro e w2 ⟨he, hB2⟩; have he' : e = .returned (.int .i64 (-1)) := he; clear he; subst he'; have HX := Lib.hid (row_below HR.out hB2 (by simp; omega)); have HXB := Lib.hid (HB0.out.trans (hB2.mono (by simp; omega))); clear hB2)
          | refine wpList_store_rowTo rfl 56 (.tmp 6) (.tmp 57) rfl rfl w.heap.size #[.int .i64 0, .string ⟨#[]⟩] rfl rfl 56 #[.int .i64 0, .string ⟨#[]⟩] HX.out info56 rfl (by simp [Value.oneCell']) ?_)
        go_wp2
        exact bodyPost_ret (v := .agg #[.int .i64 0, .string ⟨#[]⟩]) (results_cell_row rfl _ _ w.heap.size 56 _ (0, 0) _ rfl (setRow_at HX.out) Try.underlying56 rfl info56) rfl ⟨rfl, below_setRow HXB.out (Nat.le_refl _) _⟩
      | some nr =>
        obtain ⟨N, r⟩ := nr
        have hlt := numOf_lt 16 (by decide) _ _ _ _ _ HA.out.symm
        have hn1 : N ≤ 255 := by
          have : (16 : Nat) ^ 2 = 256 := by decide
          omega
        have hsm := fun w => docsmall_any N hn1 m w
        clear hlt hn1
        go_wp2_with (first
          | (go_at_call 42; refine hnum.mono ?_; rintro e w2 ⟨he, hB2⟩; have he' : e = .returned (.int .i64 N) := he; clear he; subst he'; have HX := Lib.hid (row_below HR.out hB2 (by simp; omega)); have HXB := Lib.hid (HB0.out.trans (hB2.mono (by simp; omega))); have hz : w.heap.size + 1 < w2.heap.size := (by have := hB2.size; simp at this; omega); clear hB2 hnum)
          | (go_at_call 43; refine (hsm _).mono ?_; rintro e w3 ⟨rfl, hB3⟩; have HX2 := Lib.hid (row_below HX.out hB3 (by omega)); have HXB2 := Lib.hid (HXB.out.trans (hB3.mono (by omega))); clear hB3 hz)
          | refine wpList_store_rowTo rfl 56 (.tmp 6) (.tmp 61) rfl rfl w.heap.size #[.int .i64 4, .string ⟨(smallOf N m).toArray⟩] rfl rfl 56 #[.int .i64 0, .string ⟨#[]⟩] HX2.out info56 rfl (by simp [Value.oneCell']) ?_)
        go_wp2
        exact bodyPost_ret (v := .agg #[.int .i64 4, .string ⟨(smallOf N m).toArray⟩]) (results_cell_row rfl _ _ w.heap.size 56 _ (0, 0) _ rfl (setRow_at HX2.out) Try.underlying56 rfl info56) rfl ⟨rfl, below_setRow HXB2.out (Nat.le_refl _) _⟩
end Go.Proofs.Ytpbkdgbmnffooaa
