/-
  Texts M N O R S of an earlier seat, under this one's numbers.
-/
import Derived.Test.YtbkmlldhjchhjaaGreatQd
import Derived.Laws.Rows
import Derived.Deep.AppendLies
import Derived.Deep.RegionLaw
import Derived.OwnWalk
import Derived.Laws.CopyOwn
set_option maxRecDepth 100000
/-
  Layer 6: contracts of the document's number and small.
-/
namespace Go.Proofs.YtbkmlldhjchhjaaGreat
open Go.ChangeShapes Go.WideShapes Go.ChangeAt Go.RowKit

/-- what the document's number answers -/
def docNum : Option (Nat × List UInt8) → Int
  | some (n, _) => n
  | none => -1
theorem numOf_short (base : Nat) : ∀ (d n : Nat) (l : List UInt8), l.length < d → numOf base d n l = none
  | 0, _, _, h => absurd h (by omega)
  | _ + 1, _, [], _ => rfl
  | d + 1, n, c :: t, h => by
    unfold numOf
    split
    · exact numOf_short base d _ t (by simp at h; omega)
    · rfl

theorem wrap_small (x : Int) (h : 0 ≤ x) (h1 : x ≤ 4294967312) : wrap64 x = x := by unfold wrap64; omega
theorem wrap_two (n base dn : Nat) (h : n * base ≤ 268435456 * 16) (hd : dn ≤ 15) : wrap64 (wrap64 ((n : Int) * (base : Int)) + (dn : Int)) = ((n * base + dn : Nat) : Int) := by
  rw [show (n : Int) * (base : Int) = ((n * base : Nat) : Int) by simp]
  generalize n * base = p at h
  rw [wrap_small (p : Int) (by omega) (by omega), wrap_small ((p : Int) + (dn : Int)) (by omega) (by omega)]
  omega
set_option maxRecDepth 100000 in
set_option maxHeartbeats 4000000 in
theorem docnum_any (s : ByteArray) (hs : s.size ≤ 140737488351232) (k digits base : Nat) (hk : k ≤ s.size) (hd : digits ≤ 8) (hb : base ≤ 16) (w : World) :
    Calls Tryz.prog 108 #[.string s, .int .i64 k, .int .i64 digits, .int .i64 base] w fun e w' => e = .returned (.int .i64 (docNum (numOf base digits 0 (s.data.toList.drop k)))) ∧ Below w.heap.size w w' := by
  have hl : s.data.toList.length = s.size := by simp
  have w0 : IntKind.i64.wrap ((s.size : Int) - (k : Int)) = (s.size : Int) - (k : Int) := by rw [IntKind.wrap_i64]; omega
  by_cases hsh : s.size - k < digits
  · have hA : numOf base digits 0 (s.data.toList.drop k) = none := numOf_short base digits 0 _ (by rw [List.length_drop, hl]; exact hsh)
    have d0 : (s.size : Int) - (k : Int) < (digits : Int) := by omega
    rw [hA]
    clear hA hsh
    go_enter Tryz.func108, Tryz.ntmps108
    go_wp2
    go_ret
    exact ⟨rfl, Below.refl _ _⟩
  · have d0 : (digits : Int) ≤ (s.size : Int) - (k : Int) := by omega
    obtain ⟨A, hA⟩ : ∃ A, A = numOf base digits 0 (s.data.toList.drop k) := ⟨_, rfl⟩
    rw [← hA]
    have HA := Lib.hid (show A = numOf base (digits - 0) 0 (s.data.toList.drop (k + 0)) from hA)
    have HS := Lib.hid (show k + digits ≤ s.size by omega)
    clear hA hsh
    go_enter Tryz.func108, Tryz.ntmps108
    go_wp2
    go_loopg [9, 10, 11] digits (fun g nv iv _ wr => ∃ i n : Nat, g = digits - i ∧ i ≤ digits ∧ nv = .int .i64 n ∧ iv = .int .i64 i ∧ wr = w ∧ Hid (n < 16 ^ i) ∧ Hid (A = numOf base (digits - i) n (s.data.toList.drop (k + i))))
    case atStart => exact ⟨0, 0, rfl, Nat.zero_le _, rfl, rfl, rfl, Lib.hid (by decide), HA⟩
    case round =>
      obtain ⟨i, n, rfl, hi, rfl, rfl, rfl, hN, hAn⟩ := hrel
      by_cases hlt : i < digits
      · have hn7 : n < 268435456 := by
          have h1 := hN.out
          have h2 : 16 ^ i ≤ 16 ^ 7 := Nat.pow_le_pow_right (by decide) (by omega)
          have : (16 : Nat) ^ 7 = 268435456 := by decide
          omega
        obtain ⟨K, hK⟩ : ∃ K, K = k + i := ⟨_, rfl⟩
        have hin : K < s.size := by have := HS.out; omega
        have d1 : (i : Int) < digits := by omega
        have e1 : (k : Int) + (i : Int) = (K : Int) := by omega
        have d2 : (K : Int) < s.size := by omega
        have d3 : (0 : Int) ≤ K := by omega
        have hdr : s.data.toList.drop (k + i) = s[K] :: s.data.toList.drop (K + 1) := by rw [← hK]; exact drop_at s K hin
        have hst : A = numOf base ((digits - (i + 1)) + 1) n (s[K] :: s.data.toList.drop (K + 1)) := by
          rw [hAn.out, hdr, show digits - i = digits - (i + 1) + 1 by omega]
        have HWb := Lib.hid (show wrap64 (s[K].toNat : Int) = (s[K].toNat : Int) by have := s[K].toNat_lt; unfold wrap64; omega)
        have hHv := hex_le (s[K].toNat : Int)
        obtain ⟨D, hD⟩ : ∃ D, D = hexOf (s[K].toNat : Int) := ⟨_, rfl⟩
        have hbs := fun w => rbase_any (s[K].toNat : Int) w
        rw [← hD] at hHv hbs
        by_cases hok : 0 ≤ D ∧ D < base
        · have hA2 : A = numOf base (digits - (i + 1)) (n * base + D.toNat) (s.data.toList.drop (K + 1)) := by
            rw [hst, numOf_step (by rw [← hD]; exact hok), ← hD]
          obtain ⟨dn, hdn⟩ : ∃ dn : Nat, D = (dn : Int) := ⟨D.toNat, by omega⟩
          subst hdn
          have hA3 := Lib.hid (show A = numOf base (digits - (i + 1)) (n * base + dn) (s.data.toList.drop (k + (i + 1))) by
            rw [hA2, hK]; rfl)
          have hdb : dn < base := by omega
          have hN2 := Lib.hid (show n * base + dn < 16 ^ (i + 1) by
            have h1 := hN.out
            have h2 : n * base ≤ n * 16 := Nat.mul_le_mul_left n hb
            rw [Nat.pow_succ]
            omega)
          have hmul : n * base ≤ 268435456 * 16 := Nat.mul_le_mul (by omega) hb
          have d4 : ¬ (dn : Int) < 0 := by omega
          have d5 : ¬ (base : Int) ≤ (dn : Int) := by omega
          have HW3 := Lib.hid (show wrap64 (wrap64 ((n : Int) * (base : Int)) + (dn : Int)) = ((n * base + dn : Nat) : Int) from wrap_two n base dn hmul (by omega))
          clear hA2 hst hdr hD hok hmul hAn hN hK
          go_wp2_with (go_at_call 119; rw [HWb.out]; refine (hbs _).mono ?_; rintro e w1 ⟨rfl, rfl⟩)
          go_roundg (digits - (i + 1))
          case measure => omega
          case rel => exact ⟨i + 1, n * base + dn, rfl, by omega, by rw [HW3.out], by go_num, rfl, hN2, hA3⟩
        · have hAz : A = none := by rw [hst, numOf_stop (by rw [← hD]; exact hok)]
          subst hAz
          clear hst hdr hD hAn hN hK
          by_cases hneg : D < 0
          · clear hok
            go_wp2_with (go_at_call 119; rw [HWb.out]; refine (hbs _).mono ?_; rintro e w1 ⟨rfl, rfl⟩)
            go_ret
            exact ⟨rfl, Below.refl _ _⟩
          · have d5 : (base : Int) ≤ D := by omega
            clear hok
            go_wp2_with (go_at_call 119; rw [HWb.out]; refine (hbs _).mono ?_; rintro e w1 ⟨rfl, rfl⟩)
            go_ret
            exact ⟨rfl, Below.refl _ _⟩
      · have he : i = digits := by omega
        have hAz : A = some (n, s.data.toList.drop (k + digits)) := by rw [hAn.out, he, Nat.sub_self]; rfl
        subst hAz
        clear hAn hN
        go_wp2
        go_ret
        exact ⟨rfl, Below.refl _ _⟩
end Go.Proofs.YtbkmlldhjchhjaaGreat

/-
  Layer 6: contract of the document's small.
-/
namespace Go.Proofs.YtbkmlldhjchhjaaGreat
open Go.ChangeShapes Go.WideShapes Go.ChangeAt Go.RowKit

/-- what a number below 256 says -/
def smallOf (n : Nat) (m : UInt8) : List UInt8 := if m = 34 then [UInt8.ofNat n] else form n
theorem docsmall_any (n : Nat) (hn : n ≤ 255) (m : UInt8) (w : World) :
    Calls Tryz.prog 109 #[.int .i64 n, .int .u8 m.toNat] w fun e w' => e = .returned (.string ⟨(smallOf n m).toArray⟩) ∧ Below w.heap.size w w' := by
  have b34 := bytes_n m 34 34 rfl
  by_cases h34 : m = 34
  · have hr : smallOf n m = [UInt8.ofNat n] := by unfold smallOf; rw [if_pos h34]
    rw [decide_eq_true h34] at b34
    have hcv := conv_new w [(n : Int)] _ 1 rfl rfl
    simp only [List.map_cons, List.map_nil, Int.toNat_natCast] at hcv
    rw [hr]
    clear hr h34
    go_enter Tryz.func109, Tryz.ntmps109
    go_wp2
    go_ret
    exact ⟨rfl, (Below.refl _ w).alloc (Nat.le_refl _) _⟩
  · have hr : smallOf n m = form n := by unfold smallOf; rw [if_neg h34]
    rw [decide_eq_false h34] at b34
    rw [hr]
    clear hr h34
    go_enter Tryz.func109, Tryz.ntmps109
    go_wp2_with (go_at_call 57; refine (rform_any _ _).mono ?_; rintro e w1 ⟨rfl, hB⟩)
    go_ret
    exact ⟨rfl, hB⟩
end Go.Proofs.YtbkmlldhjchhjaaGreat

/-
  Layer 6: the document's escape: a result that lies in a block of the call's own.
-/
namespace Go.Proofs.YtbkmlldhjchhjaaGreat
open Go.ChangeShapes Go.WideShapes Go.ChangeAt Go.RowKit
/-- an item: how many bytes it has, what it says -/
def item (o : Option (List UInt8 × Nat)) : Value :=
  match o with
  | some (L, n) => .agg #[.int .i64 n, .string ⟨L.toArray⟩]
  | none => .agg #[.int .i64 0, .string ⟨#[]⟩]
set_option maxHeartbeats 4000000 in
theorem docesc_end (s : ByteArray) (hs : s.size ≤ 140737488351232) (k : Nat) (hk : k < s.size) (m : UInt8) (w : World) (hin : s.size ≤ k + 1) :
    Calls Tryz.prog 98 #[.string s, .int .i64 k, .int .u8 m.toNat] w fun e w' => e = .returned (item none) ∧ Below w.heap.size w w' := by
  have d1 : (s.size : Int) ≤ (k : Int) + 1 := by omega
  go_enter Tryz.func98, Tryz.ntmps98
  go_wp2
  refine bodyPost_ret (v := .agg #[.int .i64 0, .string ⟨#[]⟩]) (by rw [results_cell_row (p := 6) (ty := 98) rfl _ _ w.heap.size 98 #[.int .i64 0, .string ⟨#[]⟩] (0, 0) _ rfl (heap_alloc_new _ _) Tryz.underlying98 rfl rfl]) rfl ⟨rfl, (Below.refl _ w).alloc (Nat.le_refl _) _⟩
end Go.Proofs.YtbkmlldhjchhjaaGreat

/-
  Layer 6: contract of the document's Quote.
-/
namespace Go.Proofs.YtbkmlldhjchhjaaGreat
open Go.ChangeShapes Go.WideShapes Go.ChangeAt Go.RowKit

theorem row_new (w : World) (xs : List Value) (t : TypeId) : ∀ j u, xs[j]? = some u → (w.alloc (.cells xs.toArray t)).cell? ((⟨w.heap.size, 0, none⟩ : Addr).add j) = some u := by
  intro j u hj
  have ha : (⟨w.heap.size, 0, none⟩ : Addr).add j = ⟨w.heap.size, j, none⟩ := by unfold Addr.add; split <;> simp_all
  rw [ha]
  unfold World.cell?
  have : (w.alloc (.cells xs.toArray t)).heap[w.heap.size]? = some (.cells xs.toArray t (0, 0)) := by show (w.heap.push _)[w.heap.size]? = _; simp
  simp only [this]
  simpa using hj
/-- a row of bytes of a call's own -/
def Own (w : World) (B : Nat) (v : Value) (T : List UInt8) : Prop := w.ownsRow B 5 1 v T.length (bvals T)
theorem Own.grew {w wr w1 : World} {B : Nat} {v v' : Value} {T L : List UInt8} {o : Obj} (h : Own wr B v T) (hB : Below B w wr) (hl : B ≤ wr.heap.size) (ho : w1.ownsRow B 5 1 v' (T.length + L.length) (bvals T ++ bvals L)) (hg : (wr.alloc o).grownBy w1 v.ownBlock) :
    Own w1 B v' (T ++ L) ∧ Below B w w1 := by
  refine ⟨?_, ?_⟩
  · unfold Own; rw [List.length_append, bvals_app]; exact ho
  · exact (hB.alloc hl o).grown hg (by simp; omega) (fun q hq => (World.ownsRow.lt h q hq).1)
theorem Own.own {w : World} {B : Nat} {v : Value} {T : List UInt8} (h : Own w B v T) : w.ownsRow B 5 1 v T.length (bvals T) := h
theorem Own.alloc {w : World} {B : Nat} {v : Value} {T : List UInt8} (h : Own w B v T) (o : Obj) : (w.alloc o).ownsRow B 5 1 v T.length (bvals T) := World.ownsRow.alloc h o
end Go.Proofs.YtbkmlldhjchhjaaGreat

/-
  Layer 6: the document's escape, where the byte behind the backslash is none of the eight names.
-/
namespace Go.Proofs.YtbkmlldhjchhjaaGreat
open Go.ChangeShapes Go.WideShapes Go.ChangeAt Go.RowKit

theorem info56 : (Tryz.prog.info? 98).map (·.size) = some 2 := by kernel_rfl
theorem setRow_at {w : World} {g : Nat} {cs new : Array Value} {t : TypeId} {fr : Nat × Nat} (h : w.heap[g]? = some (.cells cs t fr)) : (w.setRow g new).heap[g]? = some (.cells new t fr) := by
  have hlt := (Array.getElem?_eq_some_iff.1 h).1
  show (w.heap.modify g _)[g]? = _
  rw [Array.getElem?_modify, if_pos rfl, h]; rfl
/-- is a byte none of the eight names? -/
def NoName (c : UInt8) : Prop := ∀ n (h : n < 8), (⟨#[97, 98, 102, 110, 114, 116, 118, 92]⟩ : ByteArray)[n]'h ≠ c
theorem noname_eq {c : UInt8} (hN : NoName c) (n : Nat) (h : n < 8) : ((((⟨#[97, 98, 102, 110, 114, 116, 118, 92]⟩ : ByteArray)[n]'h).toNat : Int) == (c.toNat : Int)) = false := by
  rw [bytes_eq]; exact decide_eq_false (hN n h)
/-- the world ahead of the loop over the names -/
def W0 (w : World) : World := (w.alloc (.cells #[.int .i64 0, .string ⟨#[]⟩] 98)).alloc (.cells #[.int .u8 7, .int .u8 8, .int .u8 12, .int .u8 10, .int .u8 13, .int .u8 9, .int .u8 11, .int .u8 92] 5)
theorem W0_size (w : World) : (W0 w).heap.size = w.heap.size + 1 + 1 := by simp [W0]
theorem W0_row (w : World) : (W0 w).heap[w.heap.size]? = some (.cells #[.int .i64 0, .string ⟨#[]⟩] 98 (0, 0)) := by
  show ((w.heap.push _).push _)[w.heap.size]? = _
  rw [Array.getElem?_push, if_neg (by simp), Array.getElem?_push, if_pos rfl]
theorem W0_below (w : World) : Below w.heap.size w (W0 w) := ((Below.refl _ w).alloc (Nat.le_refl _) _).alloc (by simp) _
theorem row_alloc {w : World} {g : Nat} {o o' : Obj} (h : w.heap[g]? = some o) : (w.alloc o').heap[g]? = some o := by
  have hlt := (Array.getElem?_eq_some_iff.1 h).1
  show (w.heap.push o')[g]? = _
  rw [Array.getElem?_push, if_neg (by omega)]; exact h
theorem row_below {w w' : World} {B g : Nat} {o : Obj} (h : w.heap[g]? = some o) (hB : Below B w w') (hg : g < B) : w'.heap[g]? = some o := by
  rw [hB.block g hg]; exact h
theorem conv_W0 (w : World) (c : UInt8) : (convert 88 9 (.slice (some ⟨w.heap.size + 1 + 1, 0, none⟩) 1 1)).run Tryz.prog ((W0 w).alloc (.cells #[.int .u8 (c.toNat : Int)] 5)) = .ok (.string ⟨#[c]⟩) ((W0 w).alloc (.cells #[.int .u8 (c.toNat : Int)] 5)) := by
  have h := conv_new (W0 w) [(c.toNat : Int)] _ 1 rfl rfl
  rw [W0_size] at h
  simpa using h
set_option maxRecDepth 100000 in
set_option maxHeartbeats 4000000 in
theorem docesc_mark (s : ByteArray) (hs : s.size ≤ 140737488351232) (k : Nat) (hk : k + 1 < s.size) (m : UInt8) (hm : s[k + 1] = m) (hN : NoName m) (w : World) :
    Calls Tryz.prog 98 #[.string s, .int .i64 k, .int .u8 m.toNat] w fun e w' => e = .returned (item (some ([m], 2))) ∧ Below w.heap.size w w' := by
  obtain ⟨K, hK⟩ : ∃ K, k + 1 = K := ⟨_, rfl⟩
  have e1 : (k : Int) + 1 = (K : Int) := by omega
  have hKs : K < s.size := by omega
  have d1 : (K : Int) < s.size := by omega
  have d2 : (0 : Int) ≤ K := by omega
  have HC := Lib.hid (show s[K] = m by subst hK; exact hm)
  have HN := Lib.hid (show NoName s[K] by rw [HC.out]; exact hN)
  clear hm hN hk
  have hcv := conv_W0 w s[K]
  unfold W0 at hcv
  go_enter Tryz.func98, Tryz.ntmps98
  go_wp2
  go_loop [10] (fun i => ∃ n : Nat, n ≤ 8 ∧ i = .int .i64 n) (fun i => 8 - (intOf i).toNat)
  case atStart => exact ⟨0, by omega, rfl⟩
  case round =>
    obtain ⟨n, hn, rfl⟩ := hrel
    by_cases hlt : n < 8
    · have q := noname_eq HN.out n hlt
      have i1 : (n : Int) < 8 := by omega
      clear hcv
      go_wp2
      go_round
      case rel => exact ⟨n + 1, by omega, by go_num⟩
      case measure => simp [intOf]; omega
    · have i1 : ¬ (n : Int) < 8 := by omega
      have q : ((s[K].toNat : Int) == (m.toNat : Int)) = true := by rw [HC.out]; simp
      have HX := Lib.hid (row_alloc (o' := .cells #[.int .u8 (s[K].toNat : Int)] 5) (W0_row w))
      have HXB := Lib.hid ((W0_below w).alloc (by rw [W0_size]; omega) (.cells #[.int .u8 (s[K].toNat : Int)] 5))
      go_wp2_with (refine wpList_store_rowTo rfl 98 (.tmp 6) (.tmp 48) rfl rfl w.heap.size #[.int .i64 2, .string ⟨#[s[K]]⟩] rfl rfl 98 #[.int .i64 0, .string ⟨#[]⟩] HX.out info56 rfl (by simp [Value.oneCell']) ?_)
      go_wp2
      exact bodyPost_ret (v := .agg #[.int .i64 2, .string ⟨#[s[K]]⟩]) (results_cell_row rfl _ _ w.heap.size 98 _ (0, 0) _ rfl (setRow_at HX.out) Tryz.underlying98 rfl info56) rfl ⟨by rw [HC.out]; rfl, below_setRow HXB.out (Nat.le_refl _) _⟩
set_option maxRecDepth 100000 in
set_option maxHeartbeats 4000000 in
theorem docesc_x (s : ByteArray) (hs : s.size ≤ 140737488351232) (k : Nat) (hk : k + 1 < s.size) (m : UInt8) (hm : s[k + 1] ≠ m) (hN : NoName s[k + 1]) (hc : s[k + 1] = 120) (w : World) :
    Calls Tryz.prog 98 #[.string s, .int .i64 k, .int .u8 m.toNat] w fun e w' => e = .returned (item ((numOf 16 2 0 (s.data.toList.drop (k + 2))).map fun nr => (smallOf nr.1 m, 4))) ∧ Below w.heap.size w w' := by
  obtain ⟨K, hK⟩ : ∃ K, k + 1 = K := ⟨_, rfl⟩
  have e1 : (k : Int) + 1 = (K : Int) := by omega
  have hKs : K < s.size := by omega
  have d1 : (K : Int) < s.size := by omega
  have d2 : (0 : Int) ≤ K := by omega
  have HN := Lib.hid (show NoName s[K] by subst hK; exact hN)
  have qm : ((s[K].toNat : Int) == (m.toNat : Int)) = false := by rw [bytes_eq]; exact decide_eq_false (by subst hK; exact hm)
  have qx : ((s[K].toNat : Int) == 120) = true := by rw [bytes_n s[K] 120 120 rfl]; exact decide_eq_true (by subst hK; exact hc)
  obtain ⟨K2, hK2⟩ : ∃ K2, k + 2 = K2 := ⟨_, rfl⟩
  have e2 : (k : Int) + 2 = (K2 : Int) := by omega
  have hnum := docnum_any s hs K2 2 16 (by omega) (by decide) (by decide) (W0 w)
  rw [hK2]
  obtain ⟨A, hA⟩ : ∃ A, A = numOf 16 2 0 (s.data.toList.drop K2) := ⟨_, rfl⟩
  rw [← hA] at hnum ⊢
  have HA := Lib.hid hA
  unfold W0 at hnum
  clear hm hN hk hA hc
  go_enter Tryz.func98, Tryz.ntmps98
  go_wp2
  go_loop [10] (fun i => ∃ n : Nat, n ≤ 8 ∧ i = .int .i64 n) (fun i => 8 - (intOf i).toNat)
  case atStart => exact ⟨0, by omega, rfl⟩
  case round =>
    obtain ⟨n, hn, rfl⟩ := hrel
    by_cases hlt : n < 8
    · have q := noname_eq HN.out n hlt
      have i1 : (n : Int) < 8 := by omega
      clear hnum
      go_wp2
      go_round
      case rel => exact ⟨n + 1, by omega, by go_num⟩
      case measure => simp [intOf]; omega
    · have i1 : ¬ (n : Int) < 8 := by omega
      have HR := Lib.hid (W0_row w)
      have HB0 := Lib.hid (W0_below w)
      cases A with
      | none =>
        go_wp2_with (first
          | (go_at_call 108; refine hnum.mono ?_; rintro e w2 ⟨he, hB2⟩; have he' : e = .returned (.int .i64 (-1)) := he; clear he; subst he'; have HX := Lib.hid (row_below HR.out hB2 (by simp; omega)); have HXB := Lib.hid (HB0.out.trans (hB2.mono (by simp; omega))); clear hB2)
          | refine wpList_store_rowTo rfl 98 (.tmp 6) (.tmp 57) rfl rfl w.heap.size #[.int .i64 0, .string ⟨#[]⟩] rfl rfl 98 #[.int .i64 0, .string ⟨#[]⟩] HX.out info56 rfl (by simp [Value.oneCell']) ?_)
        go_wp2
        exact bodyPost_ret (v := .agg #[.int .i64 0, .string ⟨#[]⟩]) (results_cell_row rfl _ _ w.heap.size 98 _ (0, 0) _ rfl (setRow_at HX.out) Tryz.underlying98 rfl info56) rfl ⟨rfl, below_setRow HXB.out (Nat.le_refl _) _⟩
      | some nr =>
        obtain ⟨N, r⟩ := nr
        have hlt := numOf_lt 16 (by decide) _ _ _ _ _ HA.out.symm
        have hn1 : N ≤ 255 := by
          have : (16 : Nat) ^ 2 = 256 := by decide
          omega
        have hsm := fun w => docsmall_any N hn1 m w
        clear hlt hn1
        go_wp2_with (first
          | (go_at_call 108; refine hnum.mono ?_; rintro e w2 ⟨he, hB2⟩; have he' : e = .returned (.int .i64 N) := he; clear he; subst he'; have HX := Lib.hid (row_below HR.out hB2 (by simp; omega)); have HXB := Lib.hid (HB0.out.trans (hB2.mono (by simp; omega))); have hz : w.heap.size + 1 < w2.heap.size := (by have := hB2.size; simp at this; omega); clear hB2 hnum)
          | (go_at_call 109; refine (hsm _).mono ?_; rintro e w3 ⟨rfl, hB3⟩; have HX2 := Lib.hid (row_below HX.out hB3 (by omega)); have HXB2 := Lib.hid (HXB.out.trans (hB3.mono (by omega))); clear hB3 hz)
          | refine wpList_store_rowTo rfl 98 (.tmp 6) (.tmp 61) rfl rfl w.heap.size #[.int .i64 4, .string ⟨(smallOf N m).toArray⟩] rfl rfl 98 #[.int .i64 0, .string ⟨#[]⟩] HX2.out info56 rfl (by simp [Value.oneCell']) ?_)
        go_wp2
        exact bodyPost_ret (v := .agg #[.int .i64 4, .string ⟨(smallOf N m).toArray⟩]) (results_cell_row rfl _ _ w.heap.size 98 _ (0, 0) _ rfl (setRow_at HX2.out) Tryz.underlying98 rfl info56) rfl ⟨rfl, below_setRow HXB2.out (Nat.le_refl _) _⟩
end Go.Proofs.YtbkmlldhjchhjaaGreat
