/-
  Texts G H of an earlier seat, under this one's numbers.
-/
import Derived.Test.YtoffjpgobhcipaaDoorQb
import Derived.Deep.AppendLies
import Derived.Deep.RegionLaw
set_option maxRecDepth 100000
/-
  Layer 6: contract of the reader's escape: what letters name; the escape whole.
-/
namespace Go.Proofs.YtoffjpgobhcipaaDoor
open Go.ChangeShapes Go.WideShapes Go.ChangeAt Go.RowKit

set_option maxRecDepth 100000 in
set_option maxHeartbeats 4000000 in
theorem esc_97 (s : ByteArray) (hs : s.size ≤ 140737488351232) (m : UInt8) (b k : Nat) (v : Value) (T : List UInt8) (hT : T.length ≤ k) (w : World) (hR : Rd w b s k v T) (hk : k < s.size) (hc : s[k] = 97) :
    Calls Tryd.prog 78 #[.pointer (some ⟨b, 0, none⟩), .int .u8 m.toNat] w fun e w' => e = .returned (.bool (escOf m k (s.data.toList.drop k)).isSome) ∧ (∀ L k', escOf m k (s.data.toList.drop k) = some (L, k') → ∃ v', Rd w' b s k' v' (T ++ L)) ∧ Below b w w' := by
  obtain ⟨i0, hi, hz0, hz1, hz2⟩ := info_parts info5
  have hA2 : escOf m k (s.data.toList.drop k) = some ([7], k + 1) := by
    rw [drop_at s k hk, hc, escOf_cons, if_neg (by decide), if_neg (by decide), if_neg (by decide)]; rfl
  rw [hA2]
  have c0 := hR.c0
  have c1 := hR.c1
  have f1 := hR.f 1
  have hlt2 := hR.lt
  have d1 : decide (s.size ≤ k) = false := decide_eq_false (by omega)
  have d2 : (k : Int) < s.size := by omega
  have d3 : (0 : Int) ≤ k := by omega
  have w1 : IntKind.i64.wrap ((k : Int) + 1) = (k : Int) + 1 := by rw [IntKind.wrap_i64]; omega
  have HM := Lib.hid (show ∀ i, Rd ((w.drewN i).setCell ⟨b, 1, none⟩ (.int .i64 ((k : Int) + 1))) b s (k + 1) v T from fun i => (hR.drewN i).move (k + 1) (by omega))
  have hBm := Lib.hid (show ∀ i, Below b w ((w.drewN i).setCell ⟨b, 1, none⟩ (.int .i64 ((k : Int) + 1))) from fun i => (below_drewN (Below.refl b w) i).setCell (p := ⟨b, 1, none⟩) (Nat.le_refl _) _)
  have hcn : (s[k].toNat : Int) = 97 := by rw [hc]; rfl
  have hix : ∀ w, Calls Tryd.prog 90 #[.string ⟨#[97, 98, 102, 110, 114, 116, 118, 92]⟩, .int .u8 97] w fun e w' => e = .returned (.int .i64 0) ∧ w' = w := fun w => by
    have h := Tryd.strings_IndexByte ⟨#[97, 98, 102, 110, 114, 116, 118, 92]⟩ 97 w
    rw [show Lib.indexByte (⟨#[97, 98, 102, 110, 114, 116, 118, 92]⟩ : ByteArray).data.toList ((97 : Int).toNat.toUInt8) = 0 by decide] at h
    exact h
  clear hR hc hA2
  go_enter Tryd.func78, Tryd.ntmps78
  go_upto_region 1 with fail
  go_quiet (fail)
  go_upto_region 3 with fail
  go_quiet (fail)
  go_upto_region 30 with fail
  go_cut [11] from 114 to 115 (fun iv wx => iv = .int .i64 0 ∧ Rd wx b s (k + 1) v T ∧ Below b w wx)
  case first =>
    go_wp2_with (go_at_call 90; refine (hix _).mono ?_; rintro e w2 ⟨rfl, hw⟩; rw [hw]; clear hw w2)
    go_meet
    exact ⟨rfl, HM.out _, hBm.out _⟩
  case rest =>
    obtain ⟨rfl, hR1, hB1⟩ := hcut
    have e2 := hR1.c2
    have e3 := hR1.f 2
    have hl1 := hR1.lt
    have HR1 := Lib.hid hR1
    have HB1 := Lib.hid hB1
    have hO1 := hR1.own
    clear hR1 hB1 hix c0 c1 f1
    go_upto_region 32 with fail
    go_region_law (refine step_append_lies _ rfl _ _ 40 rfl (b + 1) 5 i0 (.int .u8 0) 1 1 Tryd.underlying40 hi hz0 hz1 hz2 rfl (by decide) _ _ _ rfl (World.ownsRow.drew (hO1.alloc _)) ⟨wc.heap.size, 0, none⟩ 1 1 [.int .u8 7] rfl rfl (fun j u h => one_new wc _ _ j u h) (by intro u hu; simp at hu; subst hu; rfl) (by omega) (by unfold maxLen; omega) (by omega) (by simp; omega) _ rfl ?_; intro g' cap' w4 hown3 hg3 hat hlt4; have G1 := ((HR1.out.alloc (.cells #[.int .u8 7] 5)).keep (w' := ((wc.alloc (.cells #[.int .u8 7] 5)).drew)) rfl).grew (L := [7]) hown3 hg3; have G2 := Lib.hid G1; have d5 : w4.frozen? ⟨b, 2, none⟩ = false := (by unfold World.frozen?; simp only [G1.1]; rfl); have d6 : w4.cell? ⟨b, 2, none⟩ = some v := (by unfold World.cell?; simp only [G1.1]; rfl); clear G1 hown3 hg3 hat hlt4)
    all_goals
      go_wp2
      go_ret
      exact ⟨rfl, (fun L k' h => by cases h; exact ⟨_, G2.out.2.1⟩), ((HB1.out.trans ((Below.refl b wc).alloc (by omega) _)).drew).trans G2.out.2.2⟩
set_option maxRecDepth 100000 in
set_option maxHeartbeats 4000000 in
theorem esc_98 (s : ByteArray) (hs : s.size ≤ 140737488351232) (m : UInt8) (b k : Nat) (v : Value) (T : List UInt8) (hT : T.length ≤ k) (w : World) (hR : Rd w b s k v T) (hk : k < s.size) (hc : s[k] = 98) :
    Calls Tryd.prog 78 #[.pointer (some ⟨b, 0, none⟩), .int .u8 m.toNat] w fun e w' => e = .returned (.bool (escOf m k (s.data.toList.drop k)).isSome) ∧ (∀ L k', escOf m k (s.data.toList.drop k) = some (L, k') → ∃ v', Rd w' b s k' v' (T ++ L)) ∧ Below b w w' := by
  obtain ⟨i0, hi, hz0, hz1, hz2⟩ := info_parts info5
  have hA2 : escOf m k (s.data.toList.drop k) = some ([8], k + 1) := by
    rw [drop_at s k hk, hc, escOf_cons, if_neg (by decide), if_neg (by decide), if_neg (by decide)]; rfl
  rw [hA2]
  have c0 := hR.c0
  have c1 := hR.c1
  have f1 := hR.f 1
  have hlt2 := hR.lt
  have d1 : decide (s.size ≤ k) = false := decide_eq_false (by omega)
  have d2 : (k : Int) < s.size := by omega
  have d3 : (0 : Int) ≤ k := by omega
  have w1 : IntKind.i64.wrap ((k : Int) + 1) = (k : Int) + 1 := by rw [IntKind.wrap_i64]; omega
  have HM := Lib.hid (show ∀ i, Rd ((w.drewN i).setCell ⟨b, 1, none⟩ (.int .i64 ((k : Int) + 1))) b s (k + 1) v T from fun i => (hR.drewN i).move (k + 1) (by omega))
  have hBm := Lib.hid (show ∀ i, Below b w ((w.drewN i).setCell ⟨b, 1, none⟩ (.int .i64 ((k : Int) + 1))) from fun i => (below_drewN (Below.refl b w) i).setCell (p := ⟨b, 1, none⟩) (Nat.le_refl _) _)
  have hcn : (s[k].toNat : Int) = 98 := by rw [hc]; rfl
  have hix : ∀ w, Calls Tryd.prog 90 #[.string ⟨#[97, 98, 102, 110, 114, 116, 118, 92]⟩, .int .u8 98] w fun e w' => e = .returned (.int .i64 1) ∧ w' = w := fun w => by
    have h := Tryd.strings_IndexByte ⟨#[97, 98, 102, 110, 114, 116, 118, 92]⟩ 98 w
    rw [show Lib.indexByte (⟨#[97, 98, 102, 110, 114, 116, 118, 92]⟩ : ByteArray).data.toList ((98 : Int).toNat.toUInt8) = 1 by decide] at h
    exact h
  clear hR hc hA2
  go_enter Tryd.func78, Tryd.ntmps78
  go_upto_region 1 with fail
  go_quiet (fail)
  go_upto_region 3 with fail
  go_quiet (fail)
  go_upto_region 30 with fail
  go_cut [11] from 114 to 115 (fun iv wx => iv = .int .i64 1 ∧ Rd wx b s (k + 1) v T ∧ Below b w wx)
  case first =>
    go_wp2_with (go_at_call 90; refine (hix _).mono ?_; rintro e w2 ⟨rfl, hw⟩; rw [hw]; clear hw w2)
    go_meet
    exact ⟨rfl, HM.out _, hBm.out _⟩
  case rest =>
    obtain ⟨rfl, hR1, hB1⟩ := hcut
    have e2 := hR1.c2
    have e3 := hR1.f 2
    have hl1 := hR1.lt
    have HR1 := Lib.hid hR1
    have HB1 := Lib.hid hB1
    have hO1 := hR1.own
    clear hR1 hB1 hix c0 c1 f1
    go_upto_region 32 with fail
    go_region_law (refine step_append_lies _ rfl _ _ 40 rfl (b + 1) 5 i0 (.int .u8 0) 1 1 Tryd.underlying40 hi hz0 hz1 hz2 rfl (by decide) _ _ _ rfl (World.ownsRow.drew (hO1.alloc _)) ⟨wc.heap.size, 0, none⟩ 1 1 [.int .u8 8] rfl rfl (fun j u h => one_new wc _ _ j u h) (by intro u hu; simp at hu; subst hu; rfl) (by omega) (by unfold maxLen; omega) (by omega) (by simp; omega) _ rfl ?_; intro g' cap' w4 hown3 hg3 hat hlt4; have G1 := ((HR1.out.alloc (.cells #[.int .u8 8] 5)).keep (w' := ((wc.alloc (.cells #[.int .u8 8] 5)).drew)) rfl).grew (L := [8]) hown3 hg3; have G2 := Lib.hid G1; have d5 : w4.frozen? ⟨b, 2, none⟩ = false := (by unfold World.frozen?; simp only [G1.1]; rfl); have d6 : w4.cell? ⟨b, 2, none⟩ = some v := (by unfold World.cell?; simp only [G1.1]; rfl); clear G1 hown3 hg3 hat hlt4)
    all_goals
      go_wp2
      go_ret
      exact ⟨rfl, (fun L k' h => by cases h; exact ⟨_, G2.out.2.1⟩), ((HB1.out.trans ((Below.refl b wc).alloc (by omega) _)).drew).trans G2.out.2.2⟩
set_option maxRecDepth 100000 in
set_option maxHeartbeats 4000000 in
theorem esc_102 (s : ByteArray) (hs : s.size ≤ 140737488351232) (m : UInt8) (b k : Nat) (v : Value) (T : List UInt8) (hT : T.length ≤ k) (w : World) (hR : Rd w b s k v T) (hk : k < s.size) (hc : s[k] = 102) :
    Calls Tryd.prog 78 #[.pointer (some ⟨b, 0, none⟩), .int .u8 m.toNat] w fun e w' => e = .returned (.bool (escOf m k (s.data.toList.drop k)).isSome) ∧ (∀ L k', escOf m k (s.data.toList.drop k) = some (L, k') → ∃ v', Rd w' b s k' v' (T ++ L)) ∧ Below b w w' := by
  obtain ⟨i0, hi, hz0, hz1, hz2⟩ := info_parts info5
  have hA2 : escOf m k (s.data.toList.drop k) = some ([12], k + 1) := by
    rw [drop_at s k hk, hc, escOf_cons, if_neg (by decide), if_neg (by decide), if_neg (by decide)]; rfl
  rw [hA2]
  have c0 := hR.c0
  have c1 := hR.c1
  have f1 := hR.f 1
  have hlt2 := hR.lt
  have d1 : decide (s.size ≤ k) = false := decide_eq_false (by omega)
  have d2 : (k : Int) < s.size := by omega
  have d3 : (0 : Int) ≤ k := by omega
  have w1 : IntKind.i64.wrap ((k : Int) + 1) = (k : Int) + 1 := by rw [IntKind.wrap_i64]; omega
  have HM := Lib.hid (show ∀ i, Rd ((w.drewN i).setCell ⟨b, 1, none⟩ (.int .i64 ((k : Int) + 1))) b s (k + 1) v T from fun i => (hR.drewN i).move (k + 1) (by omega))
  have hBm := Lib.hid (show ∀ i, Below b w ((w.drewN i).setCell ⟨b, 1, none⟩ (.int .i64 ((k : Int) + 1))) from fun i => (below_drewN (Below.refl b w) i).setCell (p := ⟨b, 1, none⟩) (Nat.le_refl _) _)
  have hcn : (s[k].toNat : Int) = 102 := by rw [hc]; rfl
  have hix : ∀ w, Calls Tryd.prog 90 #[.string ⟨#[97, 98, 102, 110, 114, 116, 118, 92]⟩, .int .u8 102] w fun e w' => e = .returned (.int .i64 2) ∧ w' = w := fun w => by
    have h := Tryd.strings_IndexByte ⟨#[97, 98, 102, 110, 114, 116, 118, 92]⟩ 102 w
    rw [show Lib.indexByte (⟨#[97, 98, 102, 110, 114, 116, 118, 92]⟩ : ByteArray).data.toList ((102 : Int).toNat.toUInt8) = 2 by decide] at h
    exact h
  clear hR hc hA2
  go_enter Tryd.func78, Tryd.ntmps78
  go_upto_region 1 with fail
  go_quiet (fail)
  go_upto_region 3 with fail
  go_quiet (fail)
  go_upto_region 30 with fail
  go_cut [11] from 114 to 115 (fun iv wx => iv = .int .i64 2 ∧ Rd wx b s (k + 1) v T ∧ Below b w wx)
  case first =>
    go_wp2_with (go_at_call 90; refine (hix _).mono ?_; rintro e w2 ⟨rfl, hw⟩; rw [hw]; clear hw w2)
    go_meet
    exact ⟨rfl, HM.out _, hBm.out _⟩
  case rest =>
    obtain ⟨rfl, hR1, hB1⟩ := hcut
    have e2 := hR1.c2
    have e3 := hR1.f 2
    have hl1 := hR1.lt
    have HR1 := Lib.hid hR1
    have HB1 := Lib.hid hB1
    have hO1 := hR1.own
    clear hR1 hB1 hix c0 c1 f1
    go_upto_region 32 with fail
    go_region_law (refine step_append_lies _ rfl _ _ 40 rfl (b + 1) 5 i0 (.int .u8 0) 1 1 Tryd.underlying40 hi hz0 hz1 hz2 rfl (by decide) _ _ _ rfl (World.ownsRow.drew (hO1.alloc _)) ⟨wc.heap.size, 0, none⟩ 1 1 [.int .u8 12] rfl rfl (fun j u h => one_new wc _ _ j u h) (by intro u hu; simp at hu; subst hu; rfl) (by omega) (by unfold maxLen; omega) (by omega) (by simp; omega) _ rfl ?_; intro g' cap' w4 hown3 hg3 hat hlt4; have G1 := ((HR1.out.alloc (.cells #[.int .u8 12] 5)).keep (w' := ((wc.alloc (.cells #[.int .u8 12] 5)).drew)) rfl).grew (L := [12]) hown3 hg3; have G2 := Lib.hid G1; have d5 : w4.frozen? ⟨b, 2, none⟩ = false := (by unfold World.frozen?; simp only [G1.1]; rfl); have d6 : w4.cell? ⟨b, 2, none⟩ = some v := (by unfold World.cell?; simp only [G1.1]; rfl); clear G1 hown3 hg3 hat hlt4)
    all_goals
      go_wp2
      go_ret
      exact ⟨rfl, (fun L k' h => by cases h; exact ⟨_, G2.out.2.1⟩), ((HB1.out.trans ((Below.refl b wc).alloc (by omega) _)).drew).trans G2.out.2.2⟩
set_option maxRecDepth 100000 in
set_option maxHeartbeats 4000000 in
theorem esc_110 (s : ByteArray) (hs : s.size ≤ 140737488351232) (m : UInt8) (b k : Nat) (v : Value) (T : List UInt8) (hT : T.length ≤ k) (w : World) (hR : Rd w b s k v T) (hk : k < s.size) (hc : s[k] = 110) :
    Calls Tryd.prog 78 #[.pointer (some ⟨b, 0, none⟩), .int .u8 m.toNat] w fun e w' => e = .returned (.bool (escOf m k (s.data.toList.drop k)).isSome) ∧ (∀ L k', escOf m k (s.data.toList.drop k) = some (L, k') → ∃ v', Rd w' b s k' v' (T ++ L)) ∧ Below b w w' := by
  obtain ⟨i0, hi, hz0, hz1, hz2⟩ := info_parts info5
  have hA2 : escOf m k (s.data.toList.drop k) = some ([10], k + 1) := by
    rw [drop_at s k hk, hc, escOf_cons, if_neg (by decide), if_neg (by decide), if_neg (by decide)]; rfl
  rw [hA2]
  have c0 := hR.c0
  have c1 := hR.c1
  have f1 := hR.f 1
  have hlt2 := hR.lt
  have d1 : decide (s.size ≤ k) = false := decide_eq_false (by omega)
  have d2 : (k : Int) < s.size := by omega
  have d3 : (0 : Int) ≤ k := by omega
  have w1 : IntKind.i64.wrap ((k : Int) + 1) = (k : Int) + 1 := by rw [IntKind.wrap_i64]; omega
  have HM := Lib.hid (show ∀ i, Rd ((w.drewN i).setCell ⟨b, 1, none⟩ (.int .i64 ((k : Int) + 1))) b s (k + 1) v T from fun i => (hR.drewN i).move (k + 1) (by omega))
  have hBm := Lib.hid (show ∀ i, Below b w ((w.drewN i).setCell ⟨b, 1, none⟩ (.int .i64 ((k : Int) + 1))) from fun i => (below_drewN (Below.refl b w) i).setCell (p := ⟨b, 1, none⟩) (Nat.le_refl _) _)
  have hcn : (s[k].toNat : Int) = 110 := by rw [hc]; rfl
  have hix : ∀ w, Calls Tryd.prog 90 #[.string ⟨#[97, 98, 102, 110, 114, 116, 118, 92]⟩, .int .u8 110] w fun e w' => e = .returned (.int .i64 3) ∧ w' = w := fun w => by
    have h := Tryd.strings_IndexByte ⟨#[97, 98, 102, 110, 114, 116, 118, 92]⟩ 110 w
    rw [show Lib.indexByte (⟨#[97, 98, 102, 110, 114, 116, 118, 92]⟩ : ByteArray).data.toList ((110 : Int).toNat.toUInt8) = 3 by decide] at h
    exact h
  clear hR hc hA2
  go_enter Tryd.func78, Tryd.ntmps78
  go_upto_region 1 with fail
  go_quiet (fail)
  go_upto_region 3 with fail
  go_quiet (fail)
  go_upto_region 30 with fail
  go_cut [11] from 114 to 115 (fun iv wx => iv = .int .i64 3 ∧ Rd wx b s (k + 1) v T ∧ Below b w wx)
  case first =>
    go_wp2_with (go_at_call 90; refine (hix _).mono ?_; rintro e w2 ⟨rfl, hw⟩; rw [hw]; clear hw w2)
    go_meet
    exact ⟨rfl, HM.out _, hBm.out _⟩
  case rest =>
    obtain ⟨rfl, hR1, hB1⟩ := hcut
    have e2 := hR1.c2
    have e3 := hR1.f 2
    have hl1 := hR1.lt
    have HR1 := Lib.hid hR1
    have HB1 := Lib.hid hB1
    have hO1 := hR1.own
    clear hR1 hB1 hix c0 c1 f1
    go_upto_region 32 with fail
    go_region_law (refine step_append_lies _ rfl _ _ 40 rfl (b + 1) 5 i0 (.int .u8 0) 1 1 Tryd.underlying40 hi hz0 hz1 hz2 rfl (by decide) _ _ _ rfl (World.ownsRow.drew (hO1.alloc _)) ⟨wc.heap.size, 0, none⟩ 1 1 [.int .u8 10] rfl rfl (fun j u h => one_new wc _ _ j u h) (by intro u hu; simp at hu; subst hu; rfl) (by omega) (by unfold maxLen; omega) (by omega) (by simp; omega) _ rfl ?_; intro g' cap' w4 hown3 hg3 hat hlt4; have G1 := ((HR1.out.alloc (.cells #[.int .u8 10] 5)).keep (w' := ((wc.alloc (.cells #[.int .u8 10] 5)).drew)) rfl).grew (L := [10]) hown3 hg3; have G2 := Lib.hid G1; have d5 : w4.frozen? ⟨b, 2, none⟩ = false := (by unfold World.frozen?; simp only [G1.1]; rfl); have d6 : w4.cell? ⟨b, 2, none⟩ = some v := (by unfold World.cell?; simp only [G1.1]; rfl); clear G1 hown3 hg3 hat hlt4)
    all_goals
      go_wp2
      go_ret
      exact ⟨rfl, (fun L k' h => by cases h; exact ⟨_, G2.out.2.1⟩), ((HB1.out.trans ((Below.refl b wc).alloc (by omega) _)).drew).trans G2.out.2.2⟩
set_option maxRecDepth 100000 in
set_option maxHeartbeats 4000000 in
theorem esc_114 (s : ByteArray) (hs : s.size ≤ 140737488351232) (m : UInt8) (b k : Nat) (v : Value) (T : List UInt8) (hT : T.length ≤ k) (w : World) (hR : Rd w b s k v T) (hk : k < s.size) (hc : s[k] = 114) :
    Calls Tryd.prog 78 #[.pointer (some ⟨b, 0, none⟩), .int .u8 m.toNat] w fun e w' => e = .returned (.bool (escOf m k (s.data.toList.drop k)).isSome) ∧ (∀ L k', escOf m k (s.data.toList.drop k) = some (L, k') → ∃ v', Rd w' b s k' v' (T ++ L)) ∧ Below b w w' := by
  obtain ⟨i0, hi, hz0, hz1, hz2⟩ := info_parts info5
  have hA2 : escOf m k (s.data.toList.drop k) = some ([13], k + 1) := by
    rw [drop_at s k hk, hc, escOf_cons, if_neg (by decide), if_neg (by decide), if_neg (by decide)]; rfl
  rw [hA2]
  have c0 := hR.c0
  have c1 := hR.c1
  have f1 := hR.f 1
  have hlt2 := hR.lt
  have d1 : decide (s.size ≤ k) = false := decide_eq_false (by omega)
  have d2 : (k : Int) < s.size := by omega
  have d3 : (0 : Int) ≤ k := by omega
  have w1 : IntKind.i64.wrap ((k : Int) + 1) = (k : Int) + 1 := by rw [IntKind.wrap_i64]; omega
  have HM := Lib.hid (show ∀ i, Rd ((w.drewN i).setCell ⟨b, 1, none⟩ (.int .i64 ((k : Int) + 1))) b s (k + 1) v T from fun i => (hR.drewN i).move (k + 1) (by omega))
  have hBm := Lib.hid (show ∀ i, Below b w ((w.drewN i).setCell ⟨b, 1, none⟩ (.int .i64 ((k : Int) + 1))) from fun i => (below_drewN (Below.refl b w) i).setCell (p := ⟨b, 1, none⟩) (Nat.le_refl _) _)
  have hcn : (s[k].toNat : Int) = 114 := by rw [hc]; rfl
  have hix : ∀ w, Calls Tryd.prog 90 #[.string ⟨#[97, 98, 102, 110, 114, 116, 118, 92]⟩, .int .u8 114] w fun e w' => e = .returned (.int .i64 4) ∧ w' = w := fun w => by
    have h := Tryd.strings_IndexByte ⟨#[97, 98, 102, 110, 114, 116, 118, 92]⟩ 114 w
    rw [show Lib.indexByte (⟨#[97, 98, 102, 110, 114, 116, 118, 92]⟩ : ByteArray).data.toList ((114 : Int).toNat.toUInt8) = 4 by decide] at h
    exact h
  clear hR hc hA2
  go_enter Tryd.func78, Tryd.ntmps78
  go_upto_region 1 with fail
  go_quiet (fail)
  go_upto_region 3 with fail
  go_quiet (fail)
  go_upto_region 30 with fail
  go_cut [11] from 114 to 115 (fun iv wx => iv = .int .i64 4 ∧ Rd wx b s (k + 1) v T ∧ Below b w wx)
  case first =>
    go_wp2_with (go_at_call 90; refine (hix _).mono ?_; rintro e w2 ⟨rfl, hw⟩; rw [hw]; clear hw w2)
    go_meet
    exact ⟨rfl, HM.out _, hBm.out _⟩
  case rest =>
    obtain ⟨rfl, hR1, hB1⟩ := hcut
    have e2 := hR1.c2
    have e3 := hR1.f 2
    have hl1 := hR1.lt
    have HR1 := Lib.hid hR1
    have HB1 := Lib.hid hB1
    have hO1 := hR1.own
    clear hR1 hB1 hix c0 c1 f1
    go_upto_region 32 with fail
    go_region_law (refine step_append_lies _ rfl _ _ 40 rfl (b + 1) 5 i0 (.int .u8 0) 1 1 Tryd.underlying40 hi hz0 hz1 hz2 rfl (by decide) _ _ _ rfl (World.ownsRow.drew (hO1.alloc _)) ⟨wc.heap.size, 0, none⟩ 1 1 [.int .u8 13] rfl rfl (fun j u h => one_new wc _ _ j u h) (by intro u hu; simp at hu; subst hu; rfl) (by omega) (by unfold maxLen; omega) (by omega) (by simp; omega) _ rfl ?_; intro g' cap' w4 hown3 hg3 hat hlt4; have G1 := ((HR1.out.alloc (.cells #[.int .u8 13] 5)).keep (w' := ((wc.alloc (.cells #[.int .u8 13] 5)).drew)) rfl).grew (L := [13]) hown3 hg3; have G2 := Lib.hid G1; have d5 : w4.frozen? ⟨b, 2, none⟩ = false := (by unfold World.frozen?; simp only [G1.1]; rfl); have d6 : w4.cell? ⟨b, 2, none⟩ = some v := (by unfold World.cell?; simp only [G1.1]; rfl); clear G1 hown3 hg3 hat hlt4)
    all_goals
      go_wp2
      go_ret
      exact ⟨rfl, (fun L k' h => by cases h; exact ⟨_, G2.out.2.1⟩), ((HB1.out.trans ((Below.refl b wc).alloc (by omega) _)).drew).trans G2.out.2.2⟩
set_option maxRecDepth 100000 in
set_option maxHeartbeats 4000000 in
theorem esc_116 (s : ByteArray) (hs : s.size ≤ 140737488351232) (m : UInt8) (b k : Nat) (v : Value) (T : List UInt8) (hT : T.length ≤ k) (w : World) (hR : Rd w b s k v T) (hk : k < s.size) (hc : s[k] = 116) :
    Calls Tryd.prog 78 #[.pointer (some ⟨b, 0, none⟩), .int .u8 m.toNat] w fun e w' => e = .returned (.bool (escOf m k (s.data.toList.drop k)).isSome) ∧ (∀ L k', escOf m k (s.data.toList.drop k) = some (L, k') → ∃ v', Rd w' b s k' v' (T ++ L)) ∧ Below b w w' := by
  obtain ⟨i0, hi, hz0, hz1, hz2⟩ := info_parts info5
  have hA2 : escOf m k (s.data.toList.drop k) = some ([9], k + 1) := by
    rw [drop_at s k hk, hc, escOf_cons, if_neg (by decide), if_neg (by decide), if_neg (by decide)]; rfl
  rw [hA2]
  have c0 := hR.c0
  have c1 := hR.c1
  have f1 := hR.f 1
  have hlt2 := hR.lt
  have d1 : decide (s.size ≤ k) = false := decide_eq_false (by omega)
  have d2 : (k : Int) < s.size := by omega
  have d3 : (0 : Int) ≤ k := by omega
  have w1 : IntKind.i64.wrap ((k : Int) + 1) = (k : Int) + 1 := by rw [IntKind.wrap_i64]; omega
  have HM := Lib.hid (show ∀ i, Rd ((w.drewN i).setCell ⟨b, 1, none⟩ (.int .i64 ((k : Int) + 1))) b s (k + 1) v T from fun i => (hR.drewN i).move (k + 1) (by omega))
  have hBm := Lib.hid (show ∀ i, Below b w ((w.drewN i).setCell ⟨b, 1, none⟩ (.int .i64 ((k : Int) + 1))) from fun i => (below_drewN (Below.refl b w) i).setCell (p := ⟨b, 1, none⟩) (Nat.le_refl _) _)
  have hcn : (s[k].toNat : Int) = 116 := by rw [hc]; rfl
  have hix : ∀ w, Calls Tryd.prog 90 #[.string ⟨#[97, 98, 102, 110, 114, 116, 118, 92]⟩, .int .u8 116] w fun e w' => e = .returned (.int .i64 5) ∧ w' = w := fun w => by
    have h := Tryd.strings_IndexByte ⟨#[97, 98, 102, 110, 114, 116, 118, 92]⟩ 116 w
    rw [show Lib.indexByte (⟨#[97, 98, 102, 110, 114, 116, 118, 92]⟩ : ByteArray).data.toList ((116 : Int).toNat.toUInt8) = 5 by decide] at h
    exact h
  clear hR hc hA2
  go_enter Tryd.func78, Tryd.ntmps78
  go_upto_region 1 with fail
  go_quiet (fail)
  go_upto_region 3 with fail
  go_quiet (fail)
  go_upto_region 30 with fail
  go_cut [11] from 114 to 115 (fun iv wx => iv = .int .i64 5 ∧ Rd wx b s (k + 1) v T ∧ Below b w wx)
  case first =>
    go_wp2_with (go_at_call 90; refine (hix _).mono ?_; rintro e w2 ⟨rfl, hw⟩; rw [hw]; clear hw w2)
    go_meet
    exact ⟨rfl, HM.out _, hBm.out _⟩
  case rest =>
    obtain ⟨rfl, hR1, hB1⟩ := hcut
    have e2 := hR1.c2
    have e3 := hR1.f 2
    have hl1 := hR1.lt
    have HR1 := Lib.hid hR1
    have HB1 := Lib.hid hB1
    have hO1 := hR1.own
    clear hR1 hB1 hix c0 c1 f1
    go_upto_region 32 with fail
    go_region_law (refine step_append_lies _ rfl _ _ 40 rfl (b + 1) 5 i0 (.int .u8 0) 1 1 Tryd.underlying40 hi hz0 hz1 hz2 rfl (by decide) _ _ _ rfl (World.ownsRow.drew (hO1.alloc _)) ⟨wc.heap.size, 0, none⟩ 1 1 [.int .u8 9] rfl rfl (fun j u h => one_new wc _ _ j u h) (by intro u hu; simp at hu; subst hu; rfl) (by omega) (by unfold maxLen; omega) (by omega) (by simp; omega) _ rfl ?_; intro g' cap' w4 hown3 hg3 hat hlt4; have G1 := ((HR1.out.alloc (.cells #[.int .u8 9] 5)).keep (w' := ((wc.alloc (.cells #[.int .u8 9] 5)).drew)) rfl).grew (L := [9]) hown3 hg3; have G2 := Lib.hid G1; have d5 : w4.frozen? ⟨b, 2, none⟩ = false := (by unfold World.frozen?; simp only [G1.1]; rfl); have d6 : w4.cell? ⟨b, 2, none⟩ = some v := (by unfold World.cell?; simp only [G1.1]; rfl); clear G1 hown3 hg3 hat hlt4)
    all_goals
      go_wp2
      go_ret
      exact ⟨rfl, (fun L k' h => by cases h; exact ⟨_, G2.out.2.1⟩), ((HB1.out.trans ((Below.refl b wc).alloc (by omega) _)).drew).trans G2.out.2.2⟩
set_option maxRecDepth 100000 in
set_option maxHeartbeats 4000000 in
theorem esc_118 (s : ByteArray) (hs : s.size ≤ 140737488351232) (m : UInt8) (b k : Nat) (v : Value) (T : List UInt8) (hT : T.length ≤ k) (w : World) (hR : Rd w b s k v T) (hk : k < s.size) (hc : s[k] = 118) :
    Calls Tryd.prog 78 #[.pointer (some ⟨b, 0, none⟩), .int .u8 m.toNat] w fun e w' => e = .returned (.bool (escOf m k (s.data.toList.drop k)).isSome) ∧ (∀ L k', escOf m k (s.data.toList.drop k) = some (L, k') → ∃ v', Rd w' b s k' v' (T ++ L)) ∧ Below b w w' := by
  obtain ⟨i0, hi, hz0, hz1, hz2⟩ := info_parts info5
  have hA2 : escOf m k (s.data.toList.drop k) = some ([11], k + 1) := by
    rw [drop_at s k hk, hc, escOf_cons, if_neg (by decide), if_neg (by decide), if_neg (by decide)]; rfl
  rw [hA2]
  have c0 := hR.c0
  have c1 := hR.c1
  have f1 := hR.f 1
  have hlt2 := hR.lt
  have d1 : decide (s.size ≤ k) = false := decide_eq_false (by omega)
  have d2 : (k : Int) < s.size := by omega
  have d3 : (0 : Int) ≤ k := by omega
  have w1 : IntKind.i64.wrap ((k : Int) + 1) = (k : Int) + 1 := by rw [IntKind.wrap_i64]; omega
  have HM := Lib.hid (show ∀ i, Rd ((w.drewN i).setCell ⟨b, 1, none⟩ (.int .i64 ((k : Int) + 1))) b s (k + 1) v T from fun i => (hR.drewN i).move (k + 1) (by omega))
  have hBm := Lib.hid (show ∀ i, Below b w ((w.drewN i).setCell ⟨b, 1, none⟩ (.int .i64 ((k : Int) + 1))) from fun i => (below_drewN (Below.refl b w) i).setCell (p := ⟨b, 1, none⟩) (Nat.le_refl _) _)
  have hcn : (s[k].toNat : Int) = 118 := by rw [hc]; rfl
  have hix : ∀ w, Calls Tryd.prog 90 #[.string ⟨#[97, 98, 102, 110, 114, 116, 118, 92]⟩, .int .u8 118] w fun e w' => e = .returned (.int .i64 6) ∧ w' = w := fun w => by
    have h := Tryd.strings_IndexByte ⟨#[97, 98, 102, 110, 114, 116, 118, 92]⟩ 118 w
    rw [show Lib.indexByte (⟨#[97, 98, 102, 110, 114, 116, 118, 92]⟩ : ByteArray).data.toList ((118 : Int).toNat.toUInt8) = 6 by decide] at h
    exact h
  clear hR hc hA2
  go_enter Tryd.func78, Tryd.ntmps78
  go_upto_region 1 with fail
  go_quiet (fail)
  go_upto_region 3 with fail
  go_quiet (fail)
  go_upto_region 30 with fail
  go_cut [11] from 114 to 115 (fun iv wx => iv = .int .i64 6 ∧ Rd wx b s (k + 1) v T ∧ Below b w wx)
  case first =>
    go_wp2_with (go_at_call 90; refine (hix _).mono ?_; rintro e w2 ⟨rfl, hw⟩; rw [hw]; clear hw w2)
    go_meet
    exact ⟨rfl, HM.out _, hBm.out _⟩
  case rest =>
    obtain ⟨rfl, hR1, hB1⟩ := hcut
    have e2 := hR1.c2
    have e3 := hR1.f 2
    have hl1 := hR1.lt
    have HR1 := Lib.hid hR1
    have HB1 := Lib.hid hB1
    have hO1 := hR1.own
    clear hR1 hB1 hix c0 c1 f1
    go_upto_region 32 with fail
    go_region_law (refine step_append_lies _ rfl _ _ 40 rfl (b + 1) 5 i0 (.int .u8 0) 1 1 Tryd.underlying40 hi hz0 hz1 hz2 rfl (by decide) _ _ _ rfl (World.ownsRow.drew (hO1.alloc _)) ⟨wc.heap.size, 0, none⟩ 1 1 [.int .u8 11] rfl rfl (fun j u h => one_new wc _ _ j u h) (by intro u hu; simp at hu; subst hu; rfl) (by omega) (by unfold maxLen; omega) (by omega) (by simp; omega) _ rfl ?_; intro g' cap' w4 hown3 hg3 hat hlt4; have G1 := ((HR1.out.alloc (.cells #[.int .u8 11] 5)).keep (w' := ((wc.alloc (.cells #[.int .u8 11] 5)).drew)) rfl).grew (L := [11]) hown3 hg3; have G2 := Lib.hid G1; have d5 : w4.frozen? ⟨b, 2, none⟩ = false := (by unfold World.frozen?; simp only [G1.1]; rfl); have d6 : w4.cell? ⟨b, 2, none⟩ = some v := (by unfold World.cell?; simp only [G1.1]; rfl); clear G1 hown3 hg3 hat hlt4)
    all_goals
      go_wp2
      go_ret
      exact ⟨rfl, (fun L k' h => by cases h; exact ⟨_, G2.out.2.1⟩), ((HB1.out.trans ((Below.refl b wc).alloc (by omega) _)).drew).trans G2.out.2.2⟩
set_option maxRecDepth 100000 in
set_option maxHeartbeats 4000000 in
theorem esc_92 (s : ByteArray) (hs : s.size ≤ 140737488351232) (m : UInt8) (b k : Nat) (v : Value) (T : List UInt8) (hT : T.length ≤ k) (w : World) (hR : Rd w b s k v T) (hk : k < s.size) (hc : s[k] = 92) :
    Calls Tryd.prog 78 #[.pointer (some ⟨b, 0, none⟩), .int .u8 m.toNat] w fun e w' => e = .returned (.bool (escOf m k (s.data.toList.drop k)).isSome) ∧ (∀ L k', escOf m k (s.data.toList.drop k) = some (L, k') → ∃ v', Rd w' b s k' v' (T ++ L)) ∧ Below b w w' := by
  obtain ⟨i0, hi, hz0, hz1, hz2⟩ := info_parts info5
  have hA2 : escOf m k (s.data.toList.drop k) = some ([92], k + 1) := by
    rw [drop_at s k hk, hc, escOf_cons, if_neg (by decide), if_neg (by decide), if_neg (by decide)]; rfl
  rw [hA2]
  have c0 := hR.c0
  have c1 := hR.c1
  have f1 := hR.f 1
  have hlt2 := hR.lt
  have d1 : decide (s.size ≤ k) = false := decide_eq_false (by omega)
  have d2 : (k : Int) < s.size := by omega
  have d3 : (0 : Int) ≤ k := by omega
  have w1 : IntKind.i64.wrap ((k : Int) + 1) = (k : Int) + 1 := by rw [IntKind.wrap_i64]; omega
  have HM := Lib.hid (show ∀ i, Rd ((w.drewN i).setCell ⟨b, 1, none⟩ (.int .i64 ((k : Int) + 1))) b s (k + 1) v T from fun i => (hR.drewN i).move (k + 1) (by omega))
  have hBm := Lib.hid (show ∀ i, Below b w ((w.drewN i).setCell ⟨b, 1, none⟩ (.int .i64 ((k : Int) + 1))) from fun i => (below_drewN (Below.refl b w) i).setCell (p := ⟨b, 1, none⟩) (Nat.le_refl _) _)
  have hcn : (s[k].toNat : Int) = 92 := by rw [hc]; rfl
  have hix : ∀ w, Calls Tryd.prog 90 #[.string ⟨#[97, 98, 102, 110, 114, 116, 118, 92]⟩, .int .u8 92] w fun e w' => e = .returned (.int .i64 7) ∧ w' = w := fun w => by
    have h := Tryd.strings_IndexByte ⟨#[97, 98, 102, 110, 114, 116, 118, 92]⟩ 92 w
    rw [show Lib.indexByte (⟨#[97, 98, 102, 110, 114, 116, 118, 92]⟩ : ByteArray).data.toList ((92 : Int).toNat.toUInt8) = 7 by decide] at h
    exact h
  clear hR hc hA2
  go_enter Tryd.func78, Tryd.ntmps78
  go_upto_region 1 with fail
  go_quiet (fail)
  go_upto_region 3 with fail
  go_quiet (fail)
  go_upto_region 30 with fail
  go_cut [11] from 114 to 115 (fun iv wx => iv = .int .i64 7 ∧ Rd wx b s (k + 1) v T ∧ Below b w wx)
  case first =>
    go_wp2_with (go_at_call 90; refine (hix _).mono ?_; rintro e w2 ⟨rfl, hw⟩; rw [hw]; clear hw w2)
    go_meet
    exact ⟨rfl, HM.out _, hBm.out _⟩
  case rest =>
    obtain ⟨rfl, hR1, hB1⟩ := hcut
    have e2 := hR1.c2
    have e3 := hR1.f 2
    have hl1 := hR1.lt
    have HR1 := Lib.hid hR1
    have HB1 := Lib.hid hB1
    have hO1 := hR1.own
    clear hR1 hB1 hix c0 c1 f1
    go_upto_region 32 with fail
    go_region_law (refine step_append_lies _ rfl _ _ 40 rfl (b + 1) 5 i0 (.int .u8 0) 1 1 Tryd.underlying40 hi hz0 hz1 hz2 rfl (by decide) _ _ _ rfl (World.ownsRow.drew (hO1.alloc _)) ⟨wc.heap.size, 0, none⟩ 1 1 [.int .u8 92] rfl rfl (fun j u h => one_new wc _ _ j u h) (by intro u hu; simp at hu; subst hu; rfl) (by omega) (by unfold maxLen; omega) (by omega) (by simp; omega) _ rfl ?_; intro g' cap' w4 hown3 hg3 hat hlt4; have G1 := ((HR1.out.alloc (.cells #[.int .u8 92] 5)).keep (w' := ((wc.alloc (.cells #[.int .u8 92] 5)).drew)) rfl).grew (L := [92]) hown3 hg3; have G2 := Lib.hid G1; have d5 : w4.frozen? ⟨b, 2, none⟩ = false := (by unfold World.frozen?; simp only [G1.1]; rfl); have d6 : w4.cell? ⟨b, 2, none⟩ = some v := (by unfold World.cell?; simp only [G1.1]; rfl); clear G1 hown3 hg3 hat hlt4)
    all_goals
      go_wp2
      go_ret
      exact ⟨rfl, (fun L k' h => by cases h; exact ⟨_, G2.out.2.1⟩), ((HB1.out.trans ((Below.refl b wc).alloc (by omega) _)).drew).trans G2.out.2.2⟩
set_option maxRecDepth 100000 in
set_option maxHeartbeats 4000000 in
theorem esc_other (s : ByteArray) (hs : s.size ≤ 140737488351232) (m : UInt8) (b k : Nat) (v : Value) (T : List UInt8) (_ : T.length ≤ k) (w : World) (hR : Rd w b s k v T) (hk : k < s.size) (hc : ∀ x ∈ ([85, 117, 120, 48, 49, 50, 51, 52, 53, 54, 55, 39, 34] : List UInt8), s[k] ≠ x) (hn : ∀ x ∈ ([97, 98, 102, 110, 114, 116, 118, 92] : List UInt8), s[k] ≠ x) :
    Calls Tryd.prog 78 #[.pointer (some ⟨b, 0, none⟩), .int .u8 m.toNat] w fun e w' => e = .returned (.bool (escOf m k (s.data.toList.drop k)).isSome) ∧ (∀ L k', escOf m k (s.data.toList.drop k) = some (L, k') → ∃ v', Rd w' b s k' v' (T ++ L)) ∧ Below b w w' := by
  have hA2 : escOf m k (s.data.toList.drop k) = none := by
    have h1 : ¬ (s[k] = 85 ∨ s[k] = 117 ∨ s[k] = 120) := by
      rintro (h | h | h)
      · exact hc 85 (by simp) h
      · exact hc 117 (by simp) h
      · exact hc 120 (by simp) h
    have h2 : ¬ (48 ≤ s[k].toNat ∧ s[k].toNat ≤ 55) := by
      rintro ⟨h3, h4⟩
      have : s[k].toNat = 48 ∨ s[k].toNat = 49 ∨ s[k].toNat = 50 ∨ s[k].toNat = 51 ∨ s[k].toNat = 52 ∨ s[k].toNat = 53 ∨ s[k].toNat = 54 ∨ s[k].toNat = 55 := by omega
      rcases this with e | e | e | e | e | e | e | e
      · exact hc 48 (by simp) (UInt8.toNat_inj.1 e)
      · exact hc 49 (by simp) (UInt8.toNat_inj.1 e)
      · exact hc 50 (by simp) (UInt8.toNat_inj.1 e)
      · exact hc 51 (by simp) (UInt8.toNat_inj.1 e)
      · exact hc 52 (by simp) (UInt8.toNat_inj.1 e)
      · exact hc 53 (by simp) (UInt8.toNat_inj.1 e)
      · exact hc 54 (by simp) (UInt8.toNat_inj.1 e)
      · exact hc 55 (by simp) (UInt8.toNat_inj.1 e)
    have h3 : ¬ (s[k] = 39 ∨ s[k] = 34) := by
      rintro (h | h)
      · exact hc 39 (by simp) h
      · exact hc 34 (by simp) h
    have h4 : named s[k] = none := by
      unfold named
      rw [if_neg (hn 97 (by simp)), if_neg (hn 98 (by simp)), if_neg (hn 102 (by simp)), if_neg (hn 110 (by simp)), if_neg (hn 114 (by simp)), if_neg (hn 116 (by simp)), if_neg (hn 118 (by simp)), if_neg (hn 92 (by simp))]
    rw [drop_at s k hk, escOf_cons, if_neg h1, if_neg h2, if_neg h3, h4]; rfl
  rw [hA2]
  have c0 := hR.c0
  have c1 := hR.c1
  have f1 := hR.f 1
  have hlt2 := hR.lt
  have d1 : decide (s.size ≤ k) = false := decide_eq_false (by omega)
  have d2 : (k : Int) < s.size := by omega
  have d3 : (0 : Int) ≤ k := by omega
  have w1 : IntKind.i64.wrap ((k : Int) + 1) = (k : Int) + 1 := by rw [IntKind.wrap_i64]; omega
  have HM := Lib.hid (show ∀ i, Rd ((w.drewN i).setCell ⟨b, 1, none⟩ (.int .i64 ((k : Int) + 1))) b s (k + 1) v T from fun i => (hR.drewN i).move (k + 1) (by omega))
  have hBm := Lib.hid (show ∀ i, Below b w ((w.drewN i).setCell ⟨b, 1, none⟩ (.int .i64 ((k : Int) + 1))) from fun i => (below_drewN (Below.refl b w) i).setCell (p := ⟨b, 1, none⟩) (Nat.le_refl _) _)
  have hi1 : Lib.indexByte (⟨#[97, 98, 102, 110, 114, 116, 118, 92]⟩ : ByteArray).data.toList s[k] = -1 := by
    have q : ∀ x ∈ ([97, 98, 102, 110, 114, 116, 118, 92] : List UInt8), (x == s[k]) = false := fun x hx => by simpa using fun e => hn x hx e.symm
    show Lib.indexByte [97, 98, 102, 110, 114, 116, 118, 92] s[k] = -1
    simp [Lib.indexByte, q 97 (by simp), q 98 (by simp), q 102 (by simp), q 110 (by simp), q 114 (by simp), q 116 (by simp), q 118 (by simp), q 92 (by simp)]
  have hix : ∀ w, Calls Tryd.prog 90 #[.string ⟨#[97, 98, 102, 110, 114, 116, 118, 92]⟩, .int .u8 (s[k].toNat : Int)] w fun e w' => e = .returned (.int .i64 (-1)) ∧ w' = w := fun w => by
    have h := Tryd.strings_IndexByte ⟨#[97, 98, 102, 110, 114, 116, 118, 92]⟩ (s[k].toNat : Int) w
    rw [show ((s[k].toNat : Int)).toNat.toUInt8 = s[k] by simp, hi1] at h
    exact h
  have q85 : ((s[k].toNat : Int) == 85) = false := by rw [bytes_n s[k] 85 85 rfl]; exact decide_eq_false (hc 85 (by simp))
  have q117 : ((s[k].toNat : Int) == 117) = false := by rw [bytes_n s[k] 117 117 rfl]; exact decide_eq_false (hc 117 (by simp))
  have q120 : ((s[k].toNat : Int) == 120) = false := by rw [bytes_n s[k] 120 120 rfl]; exact decide_eq_false (hc 120 (by simp))
  have q48 : ((s[k].toNat : Int) == 48) = false := by rw [bytes_n s[k] 48 48 rfl]; exact decide_eq_false (hc 48 (by simp))
  have q49 : ((s[k].toNat : Int) == 49) = false := by rw [bytes_n s[k] 49 49 rfl]; exact decide_eq_false (hc 49 (by simp))
  have q50 : ((s[k].toNat : Int) == 50) = false := by rw [bytes_n s[k] 50 50 rfl]; exact decide_eq_false (hc 50 (by simp))
  have q51 : ((s[k].toNat : Int) == 51) = false := by rw [bytes_n s[k] 51 51 rfl]; exact decide_eq_false (hc 51 (by simp))
  have q52 : ((s[k].toNat : Int) == 52) = false := by rw [bytes_n s[k] 52 52 rfl]; exact decide_eq_false (hc 52 (by simp))
  have q53 : ((s[k].toNat : Int) == 53) = false := by rw [bytes_n s[k] 53 53 rfl]; exact decide_eq_false (hc 53 (by simp))
  have q54 : ((s[k].toNat : Int) == 54) = false := by rw [bytes_n s[k] 54 54 rfl]; exact decide_eq_false (hc 54 (by simp))
  have q55 : ((s[k].toNat : Int) == 55) = false := by rw [bytes_n s[k] 55 55 rfl]; exact decide_eq_false (hc 55 (by simp))
  have q39 : ((s[k].toNat : Int) == 39) = false := by rw [bytes_n s[k] 39 39 rfl]; exact decide_eq_false (hc 39 (by simp))
  have q34 : ((s[k].toNat : Int) == 34) = false := by rw [bytes_n s[k] 34 34 rfl]; exact decide_eq_false (hc 34 (by simp))
  clear hR hc hn hA2 hi1
  go_enter Tryd.func78, Tryd.ntmps78
  go_upto_region 1 with fail
  go_quiet (fail)
  go_upto_region 3 with fail
  go_quiet (fail)
  go_wp2_with (go_at_call 90; refine (hix _).mono ?_; rintro e w2 ⟨rfl, hw⟩; rw [hw]; clear hw w2)
  go_ret
  (first | exact ⟨rfl, (fun _ _ h => by cases h), hBm.out _⟩ | exact ⟨rfl, hBm.out _⟩)

theorem escape_any (s : ByteArray) (hs : s.size ≤ 140737488351232) (m : UInt8) (b k : Nat) (v : Value) (T : List UInt8) (hT : T.length ≤ k) (w : World) (hR : Rd w b s k v T) :
    Calls Tryd.prog 78 #[.pointer (some ⟨b, 0, none⟩), .int .u8 m.toNat] w fun e w' => e = .returned (.bool (escOf m k (s.data.toList.drop k)).isSome) ∧ (∀ L k', escOf m k (s.data.toList.drop k) = some (L, k') → ∃ v', Rd w' b s k' v' (T ++ L)) ∧ Below b w w' := by
  by_cases hk : k < s.size
  · by_cases h1 : s[k] = 85
    · exact esc_85 s hs m b k v T hT w hR hk h1
    by_cases h2 : s[k] = 117
    · exact esc_117 s hs m b k v T hT w hR hk h2
    by_cases h3 : s[k] = 120
    · exact esc_120 s hs m b k v T hT w hR hk h3
    by_cases h4 : 48 ≤ s[k].toNat ∧ s[k].toNat ≤ 55
    · exact esc_oct s hs m b k v T hT w hR hk h4
    by_cases h5 : s[k] = 39
    · exact esc_39 s hs m b k v T hT w hR hk h5
    by_cases h6 : s[k] = 34
    · exact esc_34 s hs m b k v T hT w hR hk h6
    by_cases n97 : s[k] = 97
    · exact esc_97 s hs m b k v T hT w hR hk n97
    by_cases n98 : s[k] = 98
    · exact esc_98 s hs m b k v T hT w hR hk n98
    by_cases n102 : s[k] = 102
    · exact esc_102 s hs m b k v T hT w hR hk n102
    by_cases n110 : s[k] = 110
    · exact esc_110 s hs m b k v T hT w hR hk n110
    by_cases n114 : s[k] = 114
    · exact esc_114 s hs m b k v T hT w hR hk n114
    by_cases n116 : s[k] = 116
    · exact esc_116 s hs m b k v T hT w hR hk n116
    by_cases n118 : s[k] = 118
    · exact esc_118 s hs m b k v T hT w hR hk n118
    by_cases n92 : s[k] = 92
    · exact esc_92 s hs m b k v T hT w hR hk n92
    exact esc_other s hs m b k v T hT w hR hk (fun x hx e => by
      simp only [List.mem_cons, List.not_mem_nil, or_false] at hx
      rcases hx with rfl | rfl | rfl | rfl | rfl | rfl | rfl | rfl | rfl | rfl | rfl | rfl | rfl
      · exact h1 e
      · exact h2 e
      · exact h3 e
      all_goals first
        | (exact h5 e)
        | (exact h6 e)
        | (exact h4 (by rw [e]; decide))) (fun x hx e => by
      simp only [List.mem_cons, List.not_mem_nil, or_false] at hx
      rcases hx with rfl | rfl | rfl | rfl | rfl | rfl | rfl | rfl
      · exact n97 e
      · exact n98 e
      · exact n102 e
      · exact n110 e
      · exact n114 e
      · exact n116 e
      · exact n118 e
      · exact n92 e)
  · exact esc_end s m b k v T w hR (by omega)
end Go.Proofs.YtoffjpgobhcipaaDoor

/-
  Layer 6: contract of the reader's stringText.
-/
namespace Go.Proofs.YtoffjpgobhcipaaDoor
open Go.ChangeShapes Go.WideShapes Go.ChangeAt Go.RowKit

theorem form_le (r : Int) : (form r).length ≤ 4 := by
  cases h : isChar r with
  | true => have := form_len r h; omega
  | false => rw [form_none h]; simp
theorem sayOf_le {n : Nat} {m : UInt8} {t : Bool} {L : List UInt8} (h : sayOf n m t = some L) : L.length ≤ 4 := by
  unfold sayOf at h
  split at h
  · cases h; simp
  · split at h
    · cases h
    · split at h
      · cases h; exact form_le _
      · cases h
theorem escOf_grow {m : UInt8} {k : Nat} {l : List UInt8} {L : List UInt8} {k' : Nat} (h : escOf m k l = some (L, k')) : k < k' ∧ L.length ≤ k' - k + 1 := by
  cases l with
  | nil => cases h
  | cons c t =>
    rw [escOf_cons] at h
    split at h
    · cases hN : numOf 16 (digitsOf c) 0 t with
      | none => rw [hN] at h; cases h
      | some nr =>
        rw [hN] at h
        have h' : (sayOf nr.1 m (decide (c = 120))).map (fun L => (L, k + 1 + digitsOf c)) = some (L, k') := h
        cases hS : sayOf nr.1 m (decide (c = 120)) with
        | none => rw [hS] at h'; cases h'
        | some L0 =>
          rw [hS] at h'
          cases h'
          have := sayOf_le hS
          have hd : 2 ≤ digitsOf c := by unfold digitsOf; split <;> (try split) <;> omega
          omega
    · split at h
      · cases hN : numOf 8 3 0 (c :: t) with
        | none => rw [hN] at h; cases h
        | some nr =>
          rw [hN] at h
          have h' : (if nr.1 ≤ 255 then (sayOf nr.1 m true).map fun L => (L, k + 3) else none) = some (L, k') := h
          split at h'
          · cases hS : sayOf nr.1 m true with
            | none => rw [hS] at h'; cases h'
            | some L0 =>
              rw [hS] at h'
              cases h'
              have := sayOf_le hS
              omega
          · cases h'
      · split at h
        · split at h
          · cases h; simp
          · cases h
        · cases hn : named c with
          | none => rw [hn] at h; cases h
          | some x => rw [hn] at h; cases h; simp

/-- a string from a place on, behind its first mark: what it says, where it ends -/
def strOf (l : List UInt8) : Nat → Nat → List UInt8 → Option (List UInt8 × Nat)
  | 0, _, _ => none
  | f + 1, k, acc => match l[k]? with
    | none => none
    | some c => if c = 34 then some (acc, k + 1) else if c = 10 then none else if c = 92 then (escOf 34 (k + 1) (l.drop (k + 1))).bind fun x => strOf l f x.2 (acc ++ x.1) else strOf l f (k + 1) (acc ++ [c])
theorem strOf_some {l : List UInt8} {k : Nat} {c : UInt8} (f : Nat) (acc : List UInt8) (h : l[k]? = some c) : strOf l (f + 1) k acc =
    if c = 34 then some (acc, k + 1) else if c = 10 then none else if c = 92 then (escOf 34 (k + 1) (l.drop (k + 1))).bind fun x => strOf l f x.2 (acc ++ x.1) else strOf l f (k + 1) (acc ++ [c]) := by
  conv => lhs; unfold strOf
  rw [h]
theorem strOf_none {l : List UInt8} {k : Nat} (f : Nat) (acc : List UInt8) (h : l[k]? = none) : strOf l f k acc = none := by
  cases f with
  | zero => rfl
  | succ f => unfold strOf; rw [h]

set_option maxRecDepth 100000 in
set_option maxHeartbeats 8000000 in
theorem string_any (s : ByteArray) (hs : s.size ≤ 140737488351232) (b k : Nat) (v : Value) (T : List UInt8) (hT : T.length ≤ k) (w : World) (hR : Rd w b s k v T) :
    Calls Tryd.prog 64 #[.pointer (some ⟨b, 0, none⟩)] w fun e w' => e = .returned (.bool (strOf s.data.toList (s.size - k) k T).isSome) ∧ (∀ L k', strOf s.data.toList (s.size - k) k T = some (L, k') → (∃ v', Rd w' b s k' v' L)) ∧ Below b w w' := by
  obtain ⟨i0, hi, hz0, hz1, hz2⟩ := info_parts info5
  obtain ⟨A, hA⟩ : ∃ A, A = strOf s.data.toList (s.size - k) k T := ⟨_, rfl⟩
  rw [← hA]
  have HA := Lib.hid hA
  have HR := Lib.hid hR
  have hk := hR.hk
  clear hA hR
  go_enter Tryd.func64, Tryd.ntmps64
  go_wp2
  go_loopg [] (s.size - k) (fun g wr => ∃ (i f : Nat) (v : Value) (T : List UInt8), g = s.size - i ∧ i ≤ s.size ∧ s.size - i ≤ f ∧ T.length ≤ i ∧ Hid (Rd wr b s i v T) ∧ Below b w wr ∧ Hid (A = strOf s.data.toList f i T))
  case atStart => exact ⟨k, s.size - k, v, T, rfl, hk, Nat.le_refl _, hT, HR, Below.refl _ _, HA⟩
  case round =>
    obtain ⟨i, f, v, T, rfl, hi', hf, hTi, hRd, hB, hAi⟩ := hrel
    have c0 := hRd.out.c0
    have c1 := hRd.out.c1
    have f1 := hRd.out.f 1
    have hlt2 := hRd.out.lt
    by_cases hlt : i < s.size
    · obtain ⟨f', rfl⟩ : ∃ f', f = f' + 1 := ⟨f - 1, by omega⟩
      have hst := hAi.out
      rw [strOf_some f' T (at_of s i hlt)] at hst
      have d1 : decide (i < s.size) = true := decide_eq_true hlt
      have d2 : (i : Int) < s.size := by omega
      have d3 : (0 : Int) ≤ i := by omega
      have w1 : IntKind.i64.wrap ((i : Int) + 1) = (i : Int) + 1 := by rw [IntKind.wrap_i64]; omega
      have HM := Lib.hid (show ∀ m, Rd ((wr.drewN m).setCell ⟨b, 1, none⟩ (.int .i64 ((i : Int) + 1))) b s (i + 1) v T from fun m => (hRd.out.drewN m).move (i + 1) (by omega))
      have hBm := Lib.hid (show ∀ m, Below b w ((wr.drewN m).setCell ⟨b, 1, none⟩ (.int .i64 ((i : Int) + 1))) from fun m => (below_drewN hB m).setCell (p := ⟨b, 1, none⟩) (Nat.le_refl _) _)
      have b34 := bytes_n s[i] 34 34 rfl
      have b10 := bytes_n s[i] 10 10 rfl
      have b92 := bytes_n s[i] 92 92 rfl
      by_cases h34 : s[i] = 34
      · have hA2 : A = some (T, i + 1) := by rw [hst, if_pos h34]
        rw [decide_eq_true h34] at b34
        subst hA2
        clear hst b10 b92 h34 hAi
        go_upto_region 1 with fail
        go_quiet (fail)
        go_upto_region 2 with fail
        go_quiet (fail)
        go_wp2
        go_ret
        exact ⟨rfl, (fun L k' h => by cases h; exact ⟨v, HM.out _⟩), hBm.out _⟩
      rw [decide_eq_false h34] at b34
      rw [if_neg h34] at hst
      by_cases h10 : s[i] = 10
      · have hA2 : A = none := by rw [hst, if_pos h10]
        rw [decide_eq_true h10] at b10
        subst hA2
        clear hst b92 h34 h10 hAi
        go_upto_region 1 with fail
        go_quiet (fail)
        go_upto_region 2 with fail
        go_quiet (fail)
        go_wp2
        go_ret
        (first | exact ⟨rfl, (fun _ _ h => by cases h), hBm.out _⟩ | exact ⟨rfl, hBm.out _⟩)
      rw [decide_eq_false h10] at b10
      rw [if_neg h10] at hst
      by_cases h92 : s[i] = 92
      · rw [if_pos h92] at hst
        rw [decide_eq_true h92] at b92
        have hesc := fun m => escape_any s hs 34 b (i + 1) v T (by omega) _ (HM.out m)
        obtain ⟨X, hX⟩ : ∃ X, X = escOf 34 (i + 1) (s.data.toList.drop (i + 1)) := ⟨_, rfl⟩
        rw [← hX] at hesc hst
        have HX := Lib.hid hX
        have hesc' : ∀ m, Calls Tryd.prog 78 #[.pointer (some ⟨b, 0, none⟩), .int .u8 34] ((wr.drewN m).setCell ⟨b, 1, none⟩ (.int .i64 ((i : Int) + 1))) fun e w' => e = .returned (.bool X.isSome) ∧ (∀ L k', X = some (L, k') → ∃ v', Rd w' b s k' v' (T ++ L)) ∧ Below b ((wr.drewN m).setCell ⟨b, 1, none⟩ (.int .i64 ((i : Int) + 1))) w' := hesc
        clear hesc hX h34 h10 h92 hAi
        have b92' : ((s[i].toNat : Int) != 92) = false := by rw [bne, b92]; rfl
        cases X with
        | none =>
          have hA2 : A = none := hst
          subst hA2
          clear hst
          go_upto_region 1 with fail
          go_quiet (fail)
          go_upto_region 2 with fail
          go_quiet (fail)
          go_wp2_with (go_at_call 78; refine (hesc' _).mono ?_; rintro e w2 ⟨he, _, hB2⟩; have he' : e = .returned (.bool false) := he; clear he; subst he')
          go_ret
          (first | exact ⟨rfl, (fun _ _ h => by cases h), (hBm.out _).trans hB2⟩ | exact ⟨rfl, (hBm.out _).trans hB2⟩)
        | some x =>
          obtain ⟨L, k'⟩ := x
          have hA2 := Lib.hid (show A = strOf s.data.toList f' k' (T ++ L) from hst)
          obtain ⟨g1, g2⟩ := escOf_grow HX.out.symm
          have hTL : (T ++ L).length ≤ k' := by rw [List.length_append]; omega
          have HTL := Lib.hid hTL
          clear hst hTL
          go_upto_region 1 with fail
          go_quiet (fail)
          go_upto_region 2 with fail
          go_quiet (fail)
          go_wp2_with (go_at_call 78; refine (hesc' _).mono ?_; rintro e w2 ⟨he, hN, hB2⟩; have he' : e = .returned (.bool true) := he; clear he; subst he'; obtain ⟨v2, hR2⟩ := hN L k' rfl; replace hB2 := (hBm.out _).trans hB2; have hk2 := hR2.hk; have HR2 := Lib.hid hR2; clear hN hR2)
          go_roundg (s.size - k')
          case measure => omega
          case rel => exact ⟨k', f', v2, T ++ L, rfl, hk2, by omega, HTL.out, HR2, hB2, hA2⟩
      · rw [if_neg h92] at hst
        have hA2 := Lib.hid hst
        rw [decide_eq_false h92] at b92
        have b92' : ((s[i].toNat : Int) != 92) = true := by rw [bne, b92]; rfl
        have hcM := fun m => (HM.out m).c2
        clear hst h34 h10 h92 hAi
        go_upto_region 1 with fail
        go_quiet (fail)
        go_upto_region 2 with fail
        go_quiet (fail)
        go_wp2_with (at_builtin; refine wpList_append_own _ rfl _ _ 40 rfl (b + 1) 5 i0 (.int .u8 0) 1 1 Tryd.underlying40 hi hz0 hz1 hz2 rfl (by decide) _ _ _ rfl ((HM.out _).own.alloc _) ⟨_, 0, none⟩ 1 1 [.int .u8 (s[i].toNat : Int)] rfl rfl ?_ ?_ ?_ ?_ ?_ ?_)
        try any_goals (first | rfl | (unfold maxLen; omega) | omega | exact one_new _ _ _ | exact one_at _ _ _ _ (by simp) | (intro u hu; simp at hu; subst hu; rfl; done) | (simp; omega))
        intro v' w1 hown' hgrow _
        obtain ⟨g1, g2, g3⟩ := ((HM.out _).alloc _).grew (L := [s[i]]) hown' hgrow
        obtain ⟨ao, nn, cap, rfl⟩ := own_slice hown'
        have d5 : w1.frozen? ⟨b, 2, none⟩ = false := by unfold World.frozen?; simp only [g1]; rfl
        have d6 : w1.cell? ⟨b, 2, none⟩ = some v := by unfold World.cell?; simp only [g1]; rfl
        have G := Lib.hid (And.intro g2 (((hBm.out _).alloc (Nat.le_of_lt (by simpa using hlt2)) _).trans g3))
        clear g1 g2 g3 hown' hgrow
        go_wp2
        go_roundg (s.size - (i + 1))
        case measure => omega
        case rel => exact ⟨i + 1, f', _, T ++ [s[i]], rfl, by omega, by omega, by simp; omega, Lib.hid G.out.1, G.out.2, hA2⟩
    · have d1 : decide (i < s.size) = false := decide_eq_false hlt
      have hAz : A = none := by rw [hAi.out]; exact strOf_none _ _ (List.getElem?_eq_none (by simp; omega))
      subst hAz
      go_upto_region 1 with fail
      go_quiet (fail)
      go_wp2
      go_ret
      first
        | exact ⟨rfl, (fun _ _ h => by cases h), below_drewN hB _⟩
        | exact ⟨rfl, below_drewN hB _⟩
end Go.Proofs.YtoffjpgobhcipaaDoor
