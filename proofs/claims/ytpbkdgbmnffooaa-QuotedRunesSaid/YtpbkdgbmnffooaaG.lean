/-
  Layer 6: contract of the reader's escape: what letters name; the escape whole.
-/
import Derived.Test.YtpbkdgbmnffooaaF
import Derived.Deep.AppendLies
import Derived.Deep.RegionLaw
namespace Go.Proofs.Ytpbkdgbmnffooaa
open Go.ChangeShapes Go.WideShapes Go.ChangeAt Go.RowKit

set_option maxRecDepth 100000 in
set_option maxHeartbeats 4000000 in
theorem esc_97 (s : ByteArray) (hs : s.size ≤ 140737488351232) (m : UInt8) (b k : Nat) (v : Value) (T : List UInt8) (hT : T.length ≤ k) (w : World) (hR : Rd w b s k v T) (hk : k < s.size) (hc : s[k] = 97) :
    Calls Try.prog 31 #[.pointer (some ⟨b, 0, none⟩), .int .u8 m.toNat] w fun e w' => e = .returned (.bool (escOf m k (s.data.toList.drop k)).isSome) ∧ (∀ L k', escOf m k (s.data.toList.drop k) = some (L, k') → ∃ v', Rd w' b s k' v' (T ++ L)) ∧ Below b w w' := by
  obtain ⟨i0, hi, hz0, hz1, hz2⟩ := info_parts info5
  have hA2 : escOf m k (s.data.toList.drop k) = some ([7], k + 1) := by
    rw [drop_at s k hk, hc, escOf_cons, if_neg (by decide), if_neg (by decide), if_neg (by decide)]; rfl
  rw [hA2]
  have c0 := hR.c0
  have c1 := hR.c1
  have f1 := hR.f 1
  have hlt2 := hR.lt
  have d1 : decide (s.size ≤ k) = false := decide_eq_false (by omega)
  have d2 : (k : Int) < s.size := by omega
  have d3 : (0 : Int) ≤ k := by omega
  have w1 : IntKind.i64.wrap ((k : Int) + 1) = (k : Int) + 1 := by rw [IntKind.wrap_i64]; omega
  have HM := Lib.hid (show ∀ i, Rd ((w.drewN i).setCell ⟨b, 1, none⟩ (.int .i64 ((k : Int) + 1))) b s (k + 1) v T from fun i => (hR.drewN i).move (k + 1) (by omega))
  have hBm := Lib.hid (show ∀ i, Below b w ((w.drewN i).setCell ⟨b, 1, none⟩ (.int .i64 ((k : Int) + 1))) from fun i => (below_drewN (Below.refl b w) i).setCell (p := ⟨b, 1, none⟩) (Nat.le_refl _) _)
  have hcn : (s[k].toNat : Int) = 97 := by rw [hc]; rfl
  have hix : ∀ w, Calls Try.prog 39 #[.string ⟨#[97, 98, 102, 110, 114, 116, 118, 92]⟩, .int .u8 97] w fun e w' => e = .returned (.int .i64 0) ∧ w' = w := fun w => by
    have h := Try.strings_IndexByte ⟨#[97, 98, 102, 110, 114, 116, 118, 92]⟩ 97 w
    rw [show Lib.indexByte (⟨#[97, 98, 102, 110, 114, 116, 118, 92]⟩ : ByteArray).data.toList ((97 : Int).toNat.toUInt8) = 0 by decide] at h
    exact h
  clear hR hc hA2
  go_enter Try.func31, Try.ntmps31
  go_upto_region 1 with fail
  go_quiet (fail)
  go_upto_region 3 with fail
  go_quiet (fail)
  go_upto_region 30 with fail
  go_cut [11] from 114 to 115 (fun iv wx => iv = .int .i64 0 ∧ Rd wx b s (k + 1) v T ∧ Below b w wx)
  case first =>
    go_wp2_with (go_at_call 39; refine (hix _).mono ?_; rintro e w2 ⟨rfl, hw⟩; rw [hw]; clear hw w2)
    go_meet
    exact ⟨rfl, HM.out _, hBm.out _⟩
  case rest =>
    obtain ⟨rfl, hR1, hB1⟩ := hcut
    have e2 := hR1.c2
    have e3 := hR1.f 2
    have hl1 := hR1.lt
    have HR1 := Lib.hid hR1
    have HB1 := Lib.hid hB1
    have hO1 := hR1.own
    clear hR1 hB1 hix c0 c1 f1
    go_upto_region 32 with fail
    go_region_law (refine step_append_lies _ rfl _ _ 32 rfl (b + 1) 5 i0 (.int .u8 0) 1 1 Try.underlying32 hi hz0 hz1 hz2 rfl (by decide) _ _ _ rfl (World.ownsRow.drew (hO1.alloc _)) ⟨wc.heap.size, 0, none⟩ 1 1 [.int .u8 7] rfl rfl (fun j u h => one_new wc _ _ j u h) (by intro u hu; simp at hu; subst hu; rfl) (by omega) (by unfold maxLen; omega) (by omega) (by simp; omega) _ rfl ?_; intro g' cap' w4 hown3 hg3 hat hlt4; have G1 := ((HR1.out.alloc (.cells #[.int .u8 7] 5)).keep (w' := ((wc.alloc (.cells #[.int .u8 7] 5)).drew)) rfl).grew (L := [7]) hown3 hg3; have G2 := Lib.hid G1; have d5 : w4.frozen? ⟨b, 2, none⟩ = false := (by unfold World.frozen?; simp only [G1.1]; rfl); have d6 : w4.cell? ⟨b, 2, none⟩ = some v := (by unfold World.cell?; simp only [G1.1]; rfl); clear G1 hown3 hg3 hat hlt4)
    all_goals
      go_wp2
      go_ret
      exact ⟨rfl, (fun L k' h => by cases h; exact ⟨_, G2.out.2.1⟩), ((HB1.out.trans ((Below.refl b wc).alloc (by omega) _)).drew).trans G2.out.2.2⟩
set_option maxRecDepth 100000 in
set_option maxHeartbeats 4000000 in
theorem esc_98 (s : ByteArray) (hs : s.size ≤ 140737488351232) (m : UInt8) (b k : Nat) (v : Value) (T : List UInt8) (hT : T.length ≤ k) (w : World) (hR : Rd w b s k v T) (hk : k < s.size) (hc : s[k] = 98) :
    Calls Try.prog 31 #[.pointer (some ⟨b, 0, none⟩), .int .u8 m.toNat] w fun e w' => e = .returned (.bool (escOf m k (s.data.toList.drop k)).isSome) ∧ (∀ L k', escOf m k (s.data.toList.drop k) = some (L, k') → ∃ v', Rd w' b s k' v' (T ++ L)) ∧ Below b w w' := by
  obtain ⟨i0, hi, hz0, hz1, hz2⟩ := info_parts info5
  have hA2 : escOf m k (s.data.toList.drop k) = some ([8], k + 1) := by
    rw [drop_at s k hk, hc, escOf_cons, if_neg (by decide), if_neg (by decide), if_neg (by decide)]; rfl
  rw [hA2]
  have c0 := hR.c0
  have c1 := hR.c1
  have f1 := hR.f 1
  have hlt2 := hR.lt
  have d1 : decide (s.size ≤ k) = false := decide_eq_false (by omega)
  have d2 : (k : Int) < s.size := by omega
  have d3 : (0 : Int) ≤ k := by omega
  have w1 : IntKind.i64.wrap ((k : Int) + 1) = (k : Int) + 1 := by rw [IntKind.wrap_i64]; omega
  have HM := Lib.hid (show ∀ i, Rd ((w.drewN i).setCell ⟨b, 1, none⟩ (.int .i64 ((k : Int) + 1))) b s (k + 1) v T from fun i => (hR.drewN i).move (k + 1) (by omega))
  have hBm := Lib.hid (show ∀ i, Below b w ((w.drewN i).setCell ⟨b, 1, none⟩ (.int .i64 ((k : Int) + 1))) from fun i => (below_drewN (Below.refl b w) i).setCell (p := ⟨b, 1, none⟩) (Nat.le_refl _) _)
  have hcn : (s[k].toNat : Int) = 98 := by rw [hc]; rfl
  have hix : ∀ w, Calls Try.prog 39 #[.string ⟨#[97, 98, 102, 110, 114, 116, 118, 92]⟩, .int .u8 98] w fun e w' => e = .returned (.int .i64 1) ∧ w' = w := fun w => by
    have h := Try.strings_IndexByte ⟨#[97, 98, 102, 110, 114, 116, 118, 92]⟩ 98 w
    rw [show Lib.indexByte (⟨#[97, 98, 102, 110, 114, 116, 118, 92]⟩ : ByteArray).data.toList ((98 : Int).toNat.toUInt8) = 1 by decide] at h
    exact h
  clear hR hc hA2
  go_enter Try.func31, Try.ntmps31
  go_upto_region 1 with fail
  go_quiet (fail)
  go_upto_region 3 with fail
  go_quiet (fail)
  go_upto_region 30 with fail
  go_cut [11] from 114 to 115 (fun iv wx => iv = .int .i64 1 ∧ Rd wx b s (k + 1) v T ∧ Below b w wx)
  case first =>
    go_wp2_with (go_at_call 39; refine (hix _).mono ?_; rintro e w2 ⟨rfl, hw⟩; rw [hw]; clear hw w2)
    go_meet
    exact ⟨rfl, HM.out _, hBm.out _⟩
  case rest =>
    obtain ⟨rfl, hR1, hB1⟩ := hcut
    have e2 := hR1.c2
    have e3 := hR1.f 2
    have hl1 := hR1.lt
    have HR1 := Lib.hid hR1
    have HB1 := Lib.hid hB1
    have hO1 := hR1.own
    clear hR1 hB1 hix c0 c1 f1
    go_upto_region 32 with fail
    go_region_law (refine step_append_lies _ rfl _ _ 32 rfl (b + 1) 5 i0 (.int .u8 0) 1 1 Try.underlying32 hi hz0 hz1 hz2 rfl (by decide) _ _ _ rfl (World.ownsRow.drew (hO1.alloc _)) ⟨wc.heap.size, 0, none⟩ 1 1 [.int .u8 8] rfl rfl (fun j u h => one_new wc _ _ j u h) (by intro u hu; simp at hu; subst hu; rfl) (by omega) (by unfold maxLen; omega) (by omega) (by simp; omega) _ rfl ?_; intro g' cap' w4 hown3 hg3 hat hlt4; have G1 := ((HR1.out.alloc (.cells #[.int .u8 8] 5)).keep (w' := ((wc.alloc (.cells #[.int .u8 8] 5)).drew)) rfl).grew (L := [8]) hown3 hg3; have G2 := Lib.hid G1; have d5 : w4.frozen? ⟨b, 2, none⟩ = false := (by unfold World.frozen?; simp only [G1.1]; rfl); have d6 : w4.cell? ⟨b, 2, none⟩ = some v := (by unfold World.cell?; simp only [G1.1]; rfl); clear G1 hown3 hg3 hat hlt4)
    all_goals
      go_wp2
      go_ret
      exact ⟨rfl, (fun L k' h => by cases h; exact ⟨_, G2.out.2.1⟩), ((HB1.out.trans ((Below.refl b wc).alloc (by omega) _)).drew).trans G2.out.2.2⟩
set_option maxRecDepth 100000 in
set_option maxHeartbeats 4000000 in
theorem esc_102 (s : ByteArray) (hs : s.size ≤ 140737488351232) (m : UInt8) (b k : Nat) (v : Value) (T : List UInt8) (hT : T.length ≤ k) (w : World) (hR : Rd w b s k v T) (hk : k < s.size) (hc : s[k] = 102) :
    Calls Try.prog 31 #[.pointer (some ⟨b, 0, none⟩), .int .u8 m.toNat] w fun e w' => e = .returned (.bool (escOf m k (s.data.toList.drop k)).isSome) ∧ (∀ L k', escOf m k (s.data.toList.drop k) = some (L, k') → ∃ v', Rd w' b s k' v' (T ++ L)) ∧ Below b w w' := by
  obtain ⟨i0, hi, hz0, hz1, hz2⟩ := info_parts info5
  have hA2 : escOf m k (s.data.toList.drop k) = some ([12], k + 1) := by
    rw [drop_at s k hk, hc, escOf_cons, if_neg (by decide), if_neg (by decide), if_neg (by decide)]; rfl
  rw [hA2]
  have c0 := hR.c0
  have c1 := hR.c1
  have f1 := hR.f 1
  have hlt2 := hR.lt
  have d1 : decide (s.size ≤ k) = false := decide_eq_false (by omega)
  have d2 : (k : Int) < s.size := by omega
  have d3 : (0 : Int) ≤ k := by omega
  have w1 : IntKind.i64.wrap ((k : Int) + 1) = (k : Int) + 1 := by rw [IntKind.wrap_i64]; omega
  have HM := Lib.hid (show ∀ i, Rd ((w.drewN i).setCell ⟨b, 1, none⟩ (.int .i64 ((k : Int) + 1))) b s (k + 1) v T from fun i => (hR.drewN i).move (k + 1) (by omega))
  have hBm := Lib.hid (show ∀ i, Below b w ((w.drewN i).setCell ⟨b, 1, none⟩ (.int .i64 ((k : Int) + 1))) from fun i => (below_drewN (Below.refl b w) i).setCell (p := ⟨b, 1, none⟩) (Nat.le_refl _) _)
  have hcn : (s[k].toNat : Int) = 102 := by rw [hc]; rfl
  have hix : ∀ w, Calls Try.prog 39 #[.string ⟨#[97, 98, 102, 110, 114, 116, 118, 92]⟩, .int .u8 102] w fun e w' => e = .returned (.int .i64 2) ∧ w' = w := fun w => by
    have h := Try.strings_IndexByte ⟨#[97, 98, 102, 110, 114, 116, 118, 92]⟩ 102 w
    rw [show Lib.indexByte (⟨#[97, 98, 102, 110, 114, 116, 118, 92]⟩ : ByteArray).data.toList ((102 : Int).toNat.toUInt8) = 2 by decide] at h
    exact h
  clear hR hc hA2
  go_enter Try.func31, Try.ntmps31
  go_upto_region 1 with fail
  go_quiet (fail)
  go_upto_region 3 with fail
  go_quiet (fail)
  go_upto_region 30 with fail
  go_cut [11] from 114 to 115 (fun iv wx => iv = .int .i64 2 ∧ Rd wx b s (k + 1) v T ∧ Below b w wx)
  case first =>
    go_wp2_with (go_at_call 39; refine (hix _).mono ?_; rintro e w2 ⟨rfl, hw⟩; rw [hw]; clear hw w2)
    go_meet
    exact ⟨rfl, HM.out _, hBm.out _⟩
  case rest =>
    obtain ⟨rfl, hR1, hB1⟩ := hcut
    have e2 := hR1.c2
    have e3 := hR1.f 2
    have hl1 := hR1.lt
    have HR1 := Lib.hid hR1
    have HB1 := Lib.hid hB1
    have hO1 := hR1.own
    clear hR1 hB1 hix c0 c1 f1
    go_upto_region 32 with fail
    go_region_law (refine step_append_lies _ rfl _ _ 32 rfl (b + 1) 5 i0 (.int .u8 0) 1 1 Try.underlying32 hi hz0 hz1 hz2 rfl (by decide) _ _ _ rfl (World.ownsRow.drew (hO1.alloc _)) ⟨wc.heap.size, 0, none⟩ 1 1 [.int .u8 12] rfl rfl (fun j u h => one_new wc _ _ j u h) (by intro u hu; simp at hu; subst hu; rfl) (by omega) (by unfold maxLen; omega) (by omega) (by simp; omega) _ rfl ?_; intro g' cap' w4 hown3 hg3 hat hlt4; have G1 := ((HR1.out.alloc (.cells #[.int .u8 12] 5)).keep (w' := ((wc.alloc (.cells #[.int .u8 12] 5)).drew)) rfl).grew (L := [12]) hown3 hg3; have G2 := Lib.hid G1; have d5 : w4.frozen? ⟨b, 2, none⟩ = false := (by unfold World.frozen?; simp only [G1.1]; rfl); have d6 : w4.cell? ⟨b, 2, none⟩ = some v := (by unfold World.cell?; simp only [G1.1]; rfl); clear G1 hown3 hg3 hat hlt4)
    all_goals
      go_wp2
      go_ret
      exact ⟨rfl, (fun L k' h => by cases h; exact ⟨_, G2.out.2.1⟩), ((HB1.out.trans ((Below.refl b wc).alloc (by omega) _)).drew).trans G2.out.2.2⟩
set_option maxRecDepth 100000 in
set_option maxHeartbeats 4000000 in
theorem esc_110 (s : ByteArray) (hs : s.size ≤ 140737488351232) (m : UInt8) (b k : Nat) (v : Value) (T : List UInt8) (hT : T.length ≤ k) (w : World) (hR : Rd w b s k v T) (hk : k < s.size) (hc : s[k] = 110) :
    Calls Try.prog 31 #[.pointer (some ⟨b, 0, none⟩), .int .u8 m.toNat] w fun e w' => e = .returned (.bool (escOf m k (s.data.toList.drop k)).isSome) ∧ (∀ L k', escOf m k (s.data.toList.drop k) = some (L, k') → ∃ v', Rd w' b s k' v' (T ++ L)) ∧ Below b w w' := by
  obtain ⟨i0, hi, hz0, hz1, hz2⟩ := info_parts info5
  have hA2 : escOf m k (s.data.toList.drop k) = some ([10], k + 1) := by
    rw [drop_at s k hk, hc, escOf_cons, if_neg (by decide), if_neg (by decide), if_neg (by decide)]; rfl
  rw [hA2]
  have c0 := hR.c0
  have c1 := hR.c1
  have f1 := hR.f 1
  have hlt2 := hR.lt
  have d1 : decide (s.size ≤ k) = false := decide_eq_false (by omega)
  have d2 : (k : Int) < s.size := by omega
  have d3 : (0 : Int) ≤ k := by omega
  have w1 : IntKind.i64.wrap ((k : Int) + 1) = (k : Int) + 1 := by rw [IntKind.wrap_i64]; omega
  have HM := Lib.hid (show ∀ i, Rd ((w.drewN i).setCell ⟨b, 1, none⟩ (.int .i64 ((k : Int) + 1))) b s (k + 1) v T from fun i => (hR.drewN i).move (k + 1) (by omega))
  have hBm := Lib.hid (show ∀ i, Below b w ((w.drewN i).setCell ⟨b, 1, none⟩ (.int .i64 ((k : Int) + 1))) from fun i => (below_drewN (Below.refl b w) i).setCell (p := ⟨b, 1, none⟩) (Nat.le_refl _) _)
  have hcn : (s[k].toNat : Int) = 110 := by rw [hc]; rfl
  have hix : ∀ w, Calls Try.prog 39 #[.string ⟨#[97, 98, 102, 110, 114, 116, 118, 92]⟩, .int .u8 110] w fun e w' => e = .returned (.int .i64 3) ∧ w' = w := fun w => by
    have h := Try.strings_IndexByte ⟨#[97, 98, 102, 110, 114, 116, 118, 92]⟩ 110 w
    rw [show Lib.indexByte (⟨#[97, 98, 102, 110, 114, 116, 118, 92]⟩ : ByteArray).data.toList ((110 : Int).toNat.toUInt8) = 3 by decide] at h
    exact h
  clear hR hc hA2
  go_enter Try.func31, Try.ntmps31
  go_upto_region 1 with fail
  go_quiet (fail)
  go_upto_region 3 with fail
  go_quiet (fail)
  go_upto_region 30 with fail
  go_cut [11] from 114 to 115 (fun iv wx => iv = .int .i64 3 ∧ Rd wx b s (k + 1) v T ∧ Below b w wx)
  case first =>
    go_wp2_with (go_at_call 39; refine (hix _).mono ?_; rintro e w2 ⟨rfl, hw⟩; rw [hw]; clear hw w2)
    go_meet
    exact ⟨rfl, HM.out _, hBm.out _⟩
  case rest =>
    obtain ⟨rfl, hR1, hB1⟩ := hcut
    have e2 := hR1.c2
    have e3 := hR1.f 2
    have hl1 := hR1.lt
    have HR1 := Lib.hid hR1
    have HB1 := Lib.hid hB1
    have hO1 := hR1.own
    clear hR1 hB1 hix c0 c1 f1
    go_upto_region 32 with fail
    go_region_law (refine step_append_lies _ rfl _ _ 32 rfl (b + 1) 5 i0 (.int .u8 0) 1 1 Try.underlying32 hi hz0 hz1 hz2 rfl (by decide) _ _ _ rfl (World.ownsRow.drew (hO1.alloc _)) ⟨wc.heap.size, 0, none⟩ 1 1 [.int .u8 10] rfl rfl (fun j u h => one_new wc _ _ j u h) (by intro u hu; simp at hu; subst hu; rfl) (by omega) (by unfold maxLen; omega) (by omega) (by simp; omega) _ rfl ?_; intro g' cap' w4 hown3 hg3 hat hlt4; have G1 := ((HR1.out.alloc (.cells #[.int .u8 10] 5)).keep (w' := ((wc.alloc (.cells #[.int .u8 10] 5)).drew)) rfl).grew (L := [10]) hown3 hg3; have G2 := Lib.hid G1; have d5 : w4.frozen? ⟨b, 2, none⟩ = false := (by unfold World.frozen?; simp only [G1.1]; rfl); have d6 : w4.cell? ⟨b, 2, none⟩ = some v := (by unfold World.cell?; simp only [G1.1]; rfl); clear G1 hown3 hg3 hat hlt4)
    all_goals
      go_wp2
      go_ret
      exact ⟨rfl, (fun L k' h => by cases h; exact ⟨_, G2.out.2.1⟩), ((HB1.out.trans ((Below.refl b wc).alloc (by omega) _)).drew).trans G2.out.2.2⟩
set_option maxRecDepth 100000 in
set_option maxHeartbeats 4000000 in
theorem esc_114 (s : ByteArray) (hs : s.size ≤ 140737488351232) (m : UInt8) (b k : Nat) (v : Value) (T : List UInt8) (hT : T.length ≤ k) (w : World) (hR : Rd w b s k v T) (hk : k < s.size) (hc : s[k] = 114) :
    Calls Try.prog 31 #[.pointer (some ⟨b, 0, none⟩), .int .u8 m.toNat] w fun e w' => e = .returned (.bool (escOf m k (s.data.toList.drop k)).isSome) ∧ (∀ L k', escOf m k (s.data.toList.drop k) = some (L, k') → ∃ v', Rd w' b s k' v' (T ++ L)) ∧ Below b w w' := by
  obtain ⟨i0, hi, hz0, hz1, hz2⟩ := info_parts info5
  have hA2 : escOf m k (s.data.toList.drop k) = some ([13], k + 1) := by
    rw [drop_at s k hk, hc, escOf_cons, if_neg (by decide), if_neg (by decide), if_neg (by decide)]; rfl
  rw [hA2]
  have c0 := hR.c0
  have c1 := hR.c1
  have f1 := hR.f 1
  have hlt2 := hR.lt
  have d1 : decide (s.size ≤ k) = false := decide_eq_false (by omega)
  have d2 : (k : Int) < s.size := by omega
  have d3 : (0 : Int) ≤ k := by omega
  have w1 : IntKind.i64.wrap ((k : Int) + 1) = (k : Int) + 1 := by rw [IntKind.wrap_i64]; omega
  have HM := Lib.hid (show ∀ i, Rd ((w.drewN i).setCell ⟨b, 1, none⟩ (.int .i64 ((k : Int) + 1))) b s (k + 1) v T from fun i => (hR.drewN i).move (k + 1) (by omega))
  have hBm := Lib.hid (show ∀ i, Below b w ((w.drewN i).setCell ⟨b, 1, none⟩ (.int .i64 ((k : Int) + 1))) from fun i => (below_drewN (Below.refl b w) i).setCell (p := ⟨b, 1, none⟩) (Nat.le_refl _) _)
  have hcn : (s[k].toNat : Int) = 114 := by rw [hc]; rfl
  have hix : ∀ w, Calls Try.prog 39 #[.string ⟨#[97, 98, 102, 110, 114, 116, 118, 92]⟩, .int .u8 114] w fun e w' => e = .returned (.int .i64 4) ∧ w' = w := fun w => by
    have h := Try.strings_IndexByte ⟨#[97, 98, 102, 110, 114, 116, 118, 92]⟩ 114 w
    rw [show Lib.indexByte (⟨#[97, 98, 102, 110, 114, 116, 118, 92]⟩ : ByteArray).data.toList ((114 : Int).toNat.toUInt8) = 4 by decide] at h
    exact h
  clear hR hc hA2
  go_enter Try.func31, Try.ntmps31
  go_upto_region 1 with fail
  go_quiet (fail)
  go_upto_region 3 with fail
  go_quiet (fail)
  go_upto_region 30 with fail
  go_cut [11] from 114 to 115 (fun iv wx => iv = .int .i64 4 ∧ Rd wx b s (k + 1) v T ∧ Below b w wx)
  case first =>
    go_wp2_with (go_at_call 39; refine (hix _).mono ?_; rintro e w2 ⟨rfl, hw⟩; rw [hw]; clear hw w2)
    go_meet
    exact ⟨rfl, HM.out _, hBm.out _⟩
  case rest =>
    obtain ⟨rfl, hR1, hB1⟩ := hcut
    have e2 := hR1.c2
    have e3 := hR1.f 2
    have hl1 := hR1.lt
    have HR1 := Lib.hid hR1
    have HB1 := Lib.hid hB1
    have hO1 := hR1.own
    clear hR1 hB1 hix c0 c1 f1
    go_upto_region 32 with fail
    go_region_law (refine step_append_lies _ rfl _ _ 32 rfl (b + 1) 5 i0 (.int .u8 0) 1 1 Try.underlying32 hi hz0 hz1 hz2 rfl (by decide) _ _ _ rfl (World.ownsRow.drew (hO1.alloc _)) ⟨wc.heap.size, 0, none⟩ 1 1 [.int .u8 13] rfl rfl (fun j u h => one_new wc _ _ j u h) (by intro u hu; simp at hu; subst hu; rfl) (by omega) (by unfold maxLen; omega) (by omega) (by simp; omega) _ rfl ?_; intro g' cap' w4 hown3 hg3 hat hlt4; have G1 := ((HR1.out.alloc (.cells #[.int .u8 13] 5)).keep (w' := ((wc.alloc (.cells #[.int .u8 13] 5)).drew)) rfl).grew (L := [13]) hown3 hg3; have G2 := Lib.hid G1; have d5 : w4.frozen? ⟨b, 2, none⟩ = false := (by unfold World.frozen?; simp only [G1.1]; rfl); have d6 : w4.cell? ⟨b, 2, none⟩ = some v := (by unfold World.cell?; simp only [G1.1]; rfl); clear G1 hown3 hg3 hat hlt4)
    all_goals
      go_wp2
      go_ret
      exact ⟨rfl, (fun L k' h => by cases h; exact ⟨_, G2.out.2.1⟩), ((HB1.out.trans ((Below.refl b wc).alloc (by omega) _)).drew).trans G2.out.2.2⟩
set_option maxRecDepth 100000 in
set_option maxHeartbeats 4000000 in
theorem esc_116 (s : ByteArray) (hs : s.size ≤ 140737488351232) (m : UInt8) (b k : Nat) (v : Value) (T : List UInt8) (hT : T.length ≤ k) (w : World) (hR : Rd w b s k v T) (hk : k < s.size) (hc : s[k] = 116) :
    Calls Try.prog 31 #[.pointer (some ⟨b, 0, none⟩), .int .u8 m.toNat] w fun e w' => e = .returned (.bool (escOf m k (s.data.toList.drop k)).isSome) ∧ (∀ L k', escOf m k (s.data.toList.drop k) = some (L, k') → ∃ v', Rd w' b s k' v' (T ++ L)) ∧ Below b w w' := by
  obtain ⟨i0, hi, hz0, hz1, hz2⟩ := info_parts info5
  have hA2 : escOf m k (s.data.toList.drop k) = some ([9], k + 1) := by
    rw [drop_at s k hk, hc, escOf_cons, if_neg (by decide), if_neg (by decide), if_neg (by decide)]; rfl
  rw [hA2]
  have c0 := hR.c0
  have c1 := hR.c1
  have f1 := hR.f 1
  have hlt2 := hR.lt
  have d1 : decide (s.size ≤ k) = false := decide_eq_false (by omega)
  have d2 : (k : Int) < s.size := by omega
  have d3 : (0 : Int) ≤ k := by omega
  have w1 : IntKind.i64.wrap ((k : Int) + 1) = (k : Int) + 1 := by rw [IntKind.wrap_i64]; omega
  have HM := Lib.hid (show ∀ i, Rd ((w.drewN i).setCell ⟨b, 1, none⟩ (.int .i64 ((k : Int) + 1))) b s (k + 1) v T from fun i => (hR.drewN i).move (k + 1) (by omega))
  have hBm := Lib.hid (show ∀ i, Below b w ((w.drewN i).setCell ⟨b, 1, none⟩ (.int .i64 ((k : Int) + 1))) from fun i => (below_drewN (Below.refl b w) i).setCell (p := ⟨b, 1, none⟩) (Nat.le_refl _) _)
  have hcn : (s[k].toNat : Int) = 116 := by rw [hc]; rfl
  have hix : ∀ w, Calls Try.prog 39 #[.string ⟨#[97, 98, 102, 110, 114, 116, 118, 92]⟩, .int .u8 116] w fun e w' => e = .returned (.int .i64 5) ∧ w' = w := fun w => by
    have h := Try.strings_IndexByte ⟨#[97, 98, 102, 110, 114, 116, 118, 92]⟩ 116 w
    rw [show Lib.indexByte (⟨#[97, 98, 102, 110, 114, 116, 118, 92]⟩ : ByteArray).data.toList ((116 : Int).toNat.toUInt8) = 5 by decide] at h
    exact h
  clear hR hc hA2
  go_enter Try.func31, Try.ntmps31
  go_upto_region 1 with fail
  go_quiet (fail)
  go_upto_region 3 with fail
  go_quiet (fail)
  go_upto_region 30 with fail
  go_cut [11] from 114 to 115 (fun iv wx => iv = .int .i64 5 ∧ Rd wx b s (k + 1) v T ∧ Below b w wx)
  case first =>
    go_wp2_with (go_at_call 39; refine (hix _).mono ?_; rintro e w2 ⟨rfl, hw⟩; rw [hw]; clear hw w2)
    go_meet
    exact ⟨rfl, HM.out _, hBm.out _⟩
  case rest =>
    obtain ⟨rfl, hR1, hB1⟩ := hcut
    have e2 := hR1.c2
    have e3 := hR1.f 2
    have hl1 := hR1.lt
    have HR1 := Lib.hid hR1
    have HB1 := Lib.hid hB1
    have hO1 := hR1.own
    clear hR1 hB1 hix c0 c1 f1
    go_upto_region 32 with fail
    go_region_law (refine step_append_lies _ rfl _ _ 32 rfl (b + 1) 5 i0 (.int .u8 0) 1 1 Try.underlying32 hi hz0 hz1 hz2 rfl (by decide) _ _ _ rfl (World.ownsRow.drew (hO1.alloc _)) ⟨wc.heap.size, 0, none⟩ 1 1 [.int .u8 9] rfl rfl (fun j u h => one_new wc _ _ j u h) (by intro u hu; simp at hu; subst hu; rfl) (by omega) (by unfold maxLen; omega) (by omega) (by simp; omega) _ rfl ?_; intro g' cap' w4 hown3 hg3 hat hlt4; have G1 := ((HR1.out.alloc (.cells #[.int .u8 9] 5)).keep (w' := ((wc.alloc (.cells #[.int .u8 9] 5)).drew)) rfl).grew (L := [9]) hown3 hg3; have G2 := Lib.hid G1; have d5 : w4.frozen? ⟨b, 2, none⟩ = false := (by unfold World.frozen?; simp only [G1.1]; rfl); have d6 : w4.cell? ⟨b, 2, none⟩ = some v := (by unfold World.cell?; simp only [G1.1]; rfl); clear G1 hown3 hg3 hat hlt4)
    all_goals
      go_wp2
      go_ret
      exact ⟨rfl, (fun L k' h => by cases h; exact ⟨_, G2.out.2.1⟩), ((HB1.out.trans ((Below.refl b wc).alloc (by omega) _)).drew).trans G2.out.2.2⟩
set_option maxRecDepth 100000 in
set_option maxHeartbeats 4000000 in
theorem esc_118 (s : ByteArray) (hs : s.size ≤ 140737488351232) (m : UInt8) (b k : Nat) (v : Value) (T : List UInt8) (hT : T.length ≤ k) (w : World) (hR : Rd w b s k v T) (hk : k < s.size) (hc : s[k] = 118) :
    Calls Try.prog 31 #[.pointer (some ⟨b, 0, none⟩), .int .u8 m.toNat] w fun e w' => e = .returned (.bool (escOf m k (s.data.toList.drop k)).isSome) ∧ (∀ L k', escOf m k (s.data.toList.drop k) = some (L, k') → ∃ v', Rd w' b s k' v' (T ++ L)) ∧ Below b w w' := by
  obtain ⟨i0, hi, hz0, hz1, hz2⟩ := info_parts info5
  have hA2 : escOf m k (s.data.toList.drop k) = some ([11], k + 1) := by
    rw [drop_at s k hk, hc, escOf_cons, if_neg (by decide), if_neg (by decide), if_neg (by decide)]; rfl
  rw [hA2]
  have c0 := hR.c0
  have c1 := hR.c1
  have f1 := hR.f 1
  have hlt2 := hR.lt
  have d1 : decide (s.size ≤ k) = false := decide_eq_false (by omega)
  have d2 : (k : Int) < s.size := by omega
  have d3 : (0 : Int) ≤ k := by omega
  have w1 : IntKind.i64.wrap ((k : Int) + 1) = (k : Int) + 1 := by rw [IntKind.wrap_i64]; omega
  have HM := Lib.hid (show ∀ i, Rd ((w.drewN i).setCell ⟨b, 1, none⟩ (.int .i64 ((k : Int) + 1))) b s (k + 1) v T from fun i => (hR.drewN i).move (k + 1) (by omega))
  have hBm := Lib.hid (show ∀ i, Below b w ((w.drewN i).setCell ⟨b, 1, none⟩ (.int .i64 ((k : Int) + 1))) from fun i => (below_drewN (Below.refl b w) i).setCell (p := ⟨b, 1, none⟩) (Nat.le_refl _) _)
  have hcn : (s[k].toNat : Int) = 118 := by rw [hc]; rfl
  have hix : ∀ w, Calls Try.prog 39 #[.string ⟨#[97, 98, 102, 110, 114, 116, 118, 92]⟩, .int .u8 118] w fun e w' => e = .returned (.int .i64 6) ∧ w' = w := fun w => by
    have h := Try.strings_IndexByte ⟨#[97, 98, 102, 110, 114, 116, 118, 92]⟩ 118 w
    rw [show Lib.indexByte (⟨#[97, 98, 102, 110, 114, 116, 118, 92]⟩ : ByteArray).data.toList ((118 : Int).toNat.toUInt8) = 6 by decide] at h
    exact h
  clear hR hc hA2
  go_enter Try.func31, Try.ntmps31
  go_upto_region 1 with fail
  go_quiet (fail)
  go_upto_region 3 with fail
  go_quiet (fail)
  go_upto_region 30 with fail
  go_cut [11] from 114 to 115 (fun iv wx => iv = .int .i64 6 ∧ Rd wx b s (k + 1) v T ∧ Below b w wx)
  case first =>
    go_wp2_with (go_at_call 39; refine (hix _).mono ?_; rintro e w2 ⟨rfl, hw⟩; rw [hw]; clear hw w2)
    go_meet
    exact ⟨rfl, HM.out _, hBm.out _⟩
  case rest =>
    obtain ⟨rfl, hR1, hB1⟩ := hcut
    have e2 := hR1.c2
    have e3 := hR1.f 2
    have hl1 := hR1.lt
    have HR1 := Lib.hid hR1
    have HB1 := Lib.hid hB1
    have hO1 := hR1.own
    clear hR1 hB1 hix c0 c1 f1
    go_upto_region 32 with fail
    go_region_law (refine step_append_lies _ rfl _ _ 32 rfl (b + 1) 5 i0 (.int .u8 0) 1 1 Try.underlying32 hi hz0 hz1 hz2 rfl (by decide) _ _ _ rfl (World.ownsRow.drew (hO1.alloc _)) ⟨wc.heap.size, 0, none⟩ 1 1 [.int .u8 11] rfl rfl (fun j u h => one_new wc _ _ j u h) (by intro u hu; simp at hu; subst hu; rfl) (by omega) (by unfold maxLen; omega) (by omega) (by simp; omega) _ rfl ?_; intro g' cap' w4 hown3 hg3 hat hlt4; have G1 := ((HR1.out.alloc (.cells #[.int .u8 11] 5)).keep (w' := ((wc.alloc (.cells #[.int .u8 11] 5)).drew)) rfl).grew (L := [11]) hown3 hg3; have G2 := Lib.hid G1; have d5 : w4.frozen? ⟨b, 2, none⟩ = false := (by unfold World.frozen?; simp only [G1.1]; rfl); have d6 : w4.cell? ⟨b, 2, none⟩ = some v := (by unfold World.cell?; simp only [G1.1]; rfl); clear G1 hown3 hg3 hat hlt4)
    all_goals
      go_wp2
      go_ret
      exact ⟨rfl, (fun L k' h => by cases h; exact ⟨_, G2.out.2.1⟩), ((HB1.out.trans ((Below.refl b wc).alloc (by omega) _)).drew).trans G2.out.2.2⟩
set_option maxRecDepth 100000 in
set_option maxHeartbeats 4000000 in
theorem esc_92 (s : ByteArray) (hs : s.size ≤ 140737488351232) (m : UInt8) (b k : Nat) (v : Value) (T : List UInt8) (hT : T.length ≤ k) (w : World) (hR : Rd w b s k v T) (hk : k < s.size) (hc : s[k] = 92) :
    Calls Try.prog 31 #[.pointer (some ⟨b, 0, none⟩), .int .u8 m.toNat] w fun e w' => e = .returned (.bool (escOf m k (s.data.toList.drop k)).isSome) ∧ (∀ L k', escOf m k (s.data.toList.drop k) = some (L, k') → ∃ v', Rd w' b s k' v' (T ++ L)) ∧ Below b w w' := by
  obtain ⟨i0, hi, hz0, hz1, hz2⟩ := info_parts info5
  have hA2 : escOf m k (s.data.toList.drop k) = some ([92], k + 1) := by
    rw [drop_at s k hk, hc, escOf_cons, if_neg (by decide), if_neg (by decide), if_neg (by decide)]; rfl
  rw [hA2]
  have c0 := hR.c0
  have c1 := hR.c1
  have f1 := hR.f 1
  have hlt2 := hR.lt
  have d1 : decide (s.size ≤ k) = false := decide_eq_false (by omega)
  have d2 : (k : Int) < s.size := by omega
  have d3 : (0 : Int) ≤ k := by omega
  have w1 : IntKind.i64.wrap ((k : Int) + 1) = (k : Int) + 1 := by rw [IntKind.wrap_i64]; omega
  have HM := Lib.hid (show ∀ i, Rd ((w.drewN i).setCell ⟨b, 1, none⟩ (.int .i64 ((k : Int) + 1))) b s (k + 1) v T from fun i => (hR.drewN i).move (k + 1) (by omega))
  have hBm := Lib.hid (show ∀ i, Below b w ((w.drewN i).setCell ⟨b, 1, none⟩ (.int .i64 ((k : Int) + 1))) from fun i => (below_drewN (Below.refl b w) i).setCell (p := ⟨b, 1, none⟩) (Nat.le_refl _) _)
  have hcn : (s[k].toNat : Int) = 92 := by rw [hc]; rfl
  have hix : ∀ w, Calls Try.prog 39 #[.string ⟨#[97, 98, 102, 110, 114, 116, 118, 92]⟩, .int .u8 92] w fun e w' => e = .returned (.int .i64 7) ∧ w' = w := fun w => by
    have h := Try.strings_IndexByte ⟨#[97, 98, 102, 110, 114, 116, 118, 92]⟩ 92 w
    rw [show Lib.indexByte (⟨#[97, 98, 102, 110, 114, 116, 118, 92]⟩ : ByteArray).data.toList ((92 : Int).toNat.toUInt8) = 7 by decide] at h
    exact h
  clear hR hc hA2
  go_enter Try.func31, Try.ntmps31
  go_upto_region 1 with fail
  go_quiet (fail)
  go_upto_region 3 with fail
  go_quiet (fail)
  go_upto_region 30 with fail
  go_cut [11] from 114 to 115 (fun iv wx => iv = .int .i64 7 ∧ Rd wx b s (k + 1) v T ∧ Below b w wx)
  case first =>
    go_wp2_with (go_at_call 39; refine (hix _).mono ?_; rintro e w2 ⟨rfl, hw⟩; rw [hw]; clear hw w2)
    go_meet
    exact ⟨rfl, HM.out _, hBm.out _⟩
  case rest =>
    obtain ⟨rfl, hR1, hB1⟩ := hcut
    have e2 := hR1.c2
    have e3 := hR1.f 2
    have hl1 := hR1.lt
    have HR1 := Lib.hid hR1
    have HB1 := Lib.hid hB1
    have hO1 := hR1.own
    clear hR1 hB1 hix c0 c1 f1
    go_upto_region 32 with fail
    go_region_law (refine step_append_lies _ rfl _ _ 32 rfl (b + 1) 5 i0 (.int .u8 0) 1 1 Try.underlying32 hi hz0 hz1 hz2 rfl (by decide) _ _ _ rfl (World.ownsRow.drew (hO1.alloc _)) ⟨wc.heap.size, 0, none⟩ 1 1 [.int .u8 92] rfl rfl (fun j u h => one_new wc _ _ j u h) (by intro u hu; simp at hu; subst hu; rfl) (by omega) (by unfold maxLen; omega) (by omega) (by simp; omega) _ rfl ?_; intro g' cap' w4 hown3 hg3 hat hlt4; have G1 := ((HR1.out.alloc (.cells #[.int .u8 92] 5)).keep (w' := ((wc.alloc (.cells #[.int .u8 92] 5)).drew)) rfl).grew (L := [92]) hown3 hg3; have G2 := Lib.hid G1; have d5 : w4.frozen? ⟨b, 2, none⟩ = false := (by unfold World.frozen?; simp only [G1.1]; rfl); have d6 : w4.cell? ⟨b, 2, none⟩ = some v := (by unfold World.cell?; simp only [G1.1]; rfl); clear G1 hown3 hg3 hat hlt4)
    all_goals
      go_wp2
      go_ret
      exact ⟨rfl, (fun L k' h => by cases h; exact ⟨_, G2.out.2.1⟩), ((HB1.out.trans ((Below.refl b wc).alloc (by omega) _)).drew).trans G2.out.2.2⟩
set_option maxRecDepth 100000 in
set_option maxHeartbeats 4000000 in
theorem esc_other (s : ByteArray) (hs : s.size ≤ 140737488351232) (m : UInt8) (b k : Nat) (v : Value) (T : List UInt8) (_ : T.length ≤ k) (w : World) (hR : Rd w b s k v T) (hk : k < s.size) (hc : ∀ x ∈ ([85, 117, 120, 48, 49, 50, 51, 52, 53, 54, 55, 39, 34] : List UInt8), s[k] ≠ x) (hn : ∀ x ∈ ([97, 98, 102, 110, 114, 116, 118, 92] : List UInt8), s[k] ≠ x) :
    Calls Try.prog 31 #[.pointer (some ⟨b, 0, none⟩), .int .u8 m.toNat] w fun e w' => e = .returned (.bool (escOf m k (s.data.toList.drop k)).isSome) ∧ (∀ L k', escOf m k (s.data.toList.drop k) = some (L, k') → ∃ v', Rd w' b s k' v' (T ++ L)) ∧ Below b w w' := by
  have hA2 : escOf m k (s.data.toList.drop k) = none := by
    have h1 : ¬ (s[k] = 85 ∨ s[k] = 117 ∨ s[k] = 120) := by
      rintro (h | h | h)
      · exact hc 85 (by simp) h
      · exact hc 117 (by simp) h
      · exact hc 120 (by simp) h
    have h2 : ¬ (48 ≤ s[k].toNat ∧ s[k].toNat ≤ 55) := by
      rintro ⟨h3, h4⟩
      have : s[k].toNat = 48 ∨ s[k].toNat = 49 ∨ s[k].toNat = 50 ∨ s[k].toNat = 51 ∨ s[k].toNat = 52 ∨ s[k].toNat = 53 ∨ s[k].toNat = 54 ∨ s[k].toNat = 55 := by omega
      rcases this with e | e | e | e | e | e | e | e
      · exact hc 48 (by simp) (UInt8.toNat_inj.1 e)
      · exact hc 49 (by simp) (UInt8.toNat_inj.1 e)
      · exact hc 50 (by simp) (UInt8.toNat_inj.1 e)
      · exact hc 51 (by simp) (UInt8.toNat_inj.1 e)
      · exact hc 52 (by simp) (UInt8.toNat_inj.1 e)
      · exact hc 53 (by simp) (UInt8.toNat_inj.1 e)
      · exact hc 54 (by simp) (UInt8.toNat_inj.1 e)
      · exact hc 55 (by simp) (UInt8.toNat_inj.1 e)
    have h3 : ¬ (s[k] = 39 ∨ s[k] = 34) := by
      rintro (h | h)
      · exact hc 39 (by simp) h
      · exact hc 34 (by simp) h
    have h4 : named s[k] = none := by
      unfold named
      rw [if_neg (hn 97 (by simp)), if_neg (hn 98 (by simp)), if_neg (hn 102 (by simp)), if_neg (hn 110 (by simp)), if_neg (hn 114 (by simp)), if_neg (hn 116 (by simp)), if_neg (hn 118 (by simp)), if_neg (hn 92 (by simp))]
    rw [drop_at s k hk, escOf_cons, if_neg h1, if_neg h2, if_neg h3, h4]; rfl
  rw [hA2]
  have c0 := hR.c0
  have c1 := hR.c1
  have f1 := hR.f 1
  have hlt2 := hR.lt
  have d1 : decide (s.size ≤ k) = false := decide_eq_false (by omega)
  have d2 : (k : Int) < s.size := by omega
  have d3 : (0 : Int) ≤ k := by omega
  have w1 : IntKind.i64.wrap ((k : Int) + 1) = (k : Int) + 1 := by rw [IntKind.wrap_i64]; omega
  have HM := Lib.hid (show ∀ i, Rd ((w.drewN i).setCell ⟨b, 1, none⟩ (.int .i64 ((k : Int) + 1))) b s (k + 1) v T from fun i => (hR.drewN i).move (k + 1) (by omega))
  have hBm := Lib.hid (show ∀ i, Below b w ((w.drewN i).setCell ⟨b, 1, none⟩ (.int .i64 ((k : Int) + 1))) from fun i => (below_drewN (Below.refl b w) i).setCell (p := ⟨b, 1, none⟩) (Nat.le_refl _) _)
  have hi1 : Lib.indexByte (⟨#[97, 98, 102, 110, 114, 116, 118, 92]⟩ : ByteArray).data.toList s[k] = -1 := by
    have q : ∀ x ∈ ([97, 98, 102, 110, 114, 116, 118, 92] : List UInt8), (x == s[k]) = false := fun x hx => by simpa using fun e => hn x hx e.symm
    show Lib.indexByte [97, 98, 102, 110, 114, 116, 118, 92] s[k] = -1
    simp [Lib.indexByte, q 97 (by simp), q 98 (by simp), q 102 (by simp), q 110 (by simp), q 114 (by simp), q 116 (by simp), q 118 (by simp), q 92 (by simp)]
  have hix : ∀ w, Calls Try.prog 39 #[.string ⟨#[97, 98, 102, 110, 114, 116, 118, 92]⟩, .int .u8 (s[k].toNat : Int)] w fun e w' => e = .returned (.int .i64 (-1)) ∧ w' = w := fun w => by
    have h := Try.strings_IndexByte ⟨#[97, 98, 102, 110, 114, 116, 118, 92]⟩ (s[k].toNat : Int) w
    rw [show ((s[k].toNat : Int)).toNat.toUInt8 = s[k] by simp, hi1] at h
    exact h
  have q85 : ((s[k].toNat : Int) == 85) = false := by rw [bytes_n s[k] 85 85 rfl]; exact decide_eq_false (hc 85 (by simp))
  have q117 : ((s[k].toNat : Int) == 117) = false := by rw [bytes_n s[k] 117 117 rfl]; exact decide_eq_false (hc 117 (by simp))
  have q120 : ((s[k].toNat : Int) == 120) = false := by rw [bytes_n s[k] 120 120 rfl]; exact decide_eq_false (hc 120 (by simp))
  have q48 : ((s[k].toNat : Int) == 48) = false := by rw [bytes_n s[k] 48 48 rfl]; exact decide_eq_false (hc 48 (by simp))
  have q49 : ((s[k].toNat : Int) == 49) = false := by rw [bytes_n s[k] 49 49 rfl]; exact decide_eq_false (hc 49 (by simp))
  have q50 : ((s[k].toNat : Int) == 50) = false := by rw [bytes_n s[k] 50 50 rfl]; exact decide_eq_false (hc 50 (by simp))
  have q51 : ((s[k].toNat : Int) == 51) = false := by rw [bytes_n s[k] 51 51 rfl]; exact decide_eq_false (hc 51 (by simp))
  have q52 : ((s[k].toNat : Int) == 52) = false := by rw [bytes_n s[k] 52 52 rfl]; exact decide_eq_false (hc 52 (by simp))
  have q53 : ((s[k].toNat : Int) == 53) = false := by rw [bytes_n s[k] 53 53 rfl]; exact decide_eq_false (hc 53 (by simp))
  have q54 : ((s[k].toNat : Int) == 54) = false := by rw [bytes_n s[k] 54 54 rfl]; exact decide_eq_false (hc 54 (by simp))
  have q55 : ((s[k].toNat : Int) == 55) = false := by rw [bytes_n s[k] 55 55 rfl]; exact decide_eq_false (hc 55 (by simp))
  have q39 : ((s[k].toNat : Int) == 39) = false := by rw [bytes_n s[k] 39 39 rfl]; exact decide_eq_false (hc 39 (by simp))
  have q34 : ((s[k].toNat : Int) == 34) = false := by rw [bytes_n s[k] 34 34 rfl]; exact decide_eq_false (hc 34 (by simp))
  clear hR hc hn hA2 hi1
  go_enter Try.func31, Try.ntmps31
  go_upto_region 1 with fail
  go_quiet (fail)
  go_upto_region 3 with fail
  go_quiet (fail)
  go_wp2_with (go_at_call 39; refine (hix _).mono ?_; rintro e w2 ⟨rfl, hw⟩; rw [hw]; clear hw w2)
  go_ret
  (first | exact ⟨rfl, (fun _ _ h => by cases h), hBm.out _⟩ | exact ⟨rfl, hBm.out _⟩)

theorem escape_any (s : ByteArray) (hs : s.size ≤ 140737488351232) (m : UInt8) (b k : Nat) (v : Value) (T : List UInt8) (hT : T.length ≤ k) (w : World) (hR : Rd w b s k v T) :
    Calls Try.prog 31 #[.pointer (some ⟨b, 0, none⟩), .int .u8 m.toNat] w fun e w' => e = .returned (.bool (escOf m k (s.data.toList.drop k)).isSome) ∧ (∀ L k', escOf m k (s.data.toList.drop k) = some (L, k') → ∃ v', Rd w' b s k' v' (T ++ L)) ∧ Below b w w' := by
  by_cases hk : k < s.size
  · by_cases h1 : s[k] = 85
    · exact esc_85 s hs m b k v T hT w hR hk h1
    by_cases h2 : s[k] = 117
    · exact esc_117 s hs m b k v T hT w hR hk h2
    by_cases h3 : s[k] = 120
    · exact esc_120 s hs m b k v T hT w hR hk h3
    by_cases h4 : 48 ≤ s[k].toNat ∧ s[k].toNat ≤ 55
    · exact esc_oct s hs m b k v T hT w hR hk h4
    by_cases h5 : s[k] = 39
    · exact esc_39 s hs m b k v T hT w hR hk h5
    by_cases h6 : s[k] = 34
    · exact esc_34 s hs m b k v T hT w hR hk h6
    by_cases n97 : s[k] = 97
    · exact esc_97 s hs m b k v T hT w hR hk n97
    by_cases n98 : s[k] = 98
    · exact esc_98 s hs m b k v T hT w hR hk n98
    by_cases n102 : s[k] = 102
    · exact esc_102 s hs m b k v T hT w hR hk n102
    by_cases n110 : s[k] = 110
    · exact esc_110 s hs m b k v T hT w hR hk n110
    by_cases n114 : s[k] = 114
    · exact esc_114 s hs m b k v T hT w hR hk n114
    by_cases n116 : s[k] = 116
    · exact esc_116 s hs m b k v T hT w hR hk n116
    by_cases n118 : s[k] = 118
    · exact esc_118 s hs m b k v T hT w hR hk n118
    by_cases n92 : s[k] = 92
    · exact esc_92 s hs m b k v T hT w hR hk n92
    exact esc_other s hs m b k v T hT w hR hk (fun x hx e => by
      simp only [List.mem_cons, List.not_mem_nil, or_false] at hx
      rcases hx with rfl | rfl | rfl | rfl | rfl | rfl | rfl | rfl | rfl | rfl | rfl | rfl | rfl
      · exact h1 e
      · exact h2 e
      · exact h3 e
      all_goals first
        | (exact h5 e)
        | (exact h6 e)
        | (exact h4 (by rw [e]; decide))) (fun x hx e => by
      simp only [List.mem_cons, List.not_mem_nil, or_false] at hx
      rcases hx with rfl | rfl | rfl | rfl | rfl | rfl | rfl | rfl
      · exact n97 e
      · exact n98 e
      · exact n102 e
      · exact n110 e
      · exact n114 e
      · exact n116 e
      · exact n118 e
      · exact n92 e)
  · exact esc_end s m b k v T w hR (by omega)
end Go.Proofs.Ytpbkdgbmnffooaa
