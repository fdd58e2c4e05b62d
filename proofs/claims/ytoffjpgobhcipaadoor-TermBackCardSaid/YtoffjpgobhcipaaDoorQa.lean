/-
  Texts A B C D of an earlier seat, under this one's numbers.
-/
import Derived.Test.YtoffjpgobhcipaaDoorCb
import Derived.Deep.QuietTactic
import Derived.BigQuiet
import Derived.Deep.LoopGhost
import Derived.Deep.CutRange
import Derived.Deep.DeepCutAuto
import Derived.IntWalk
import Derived.Laws.AppendOwn
import Derived.Laws.OwnMore
import Derived.Laws.BytesString
import Derived.Laws.Cells
import Derived.Great.BuildSlice
import Derived.Lib.AppendStr
set_option maxRecDepth 100000
/-
  Layer 6: a reader as it lies in memory; contracts of quoted.mark and of the reader's number.
-/
namespace Go.Proofs.YtoffjpgobhcipaaDoor
open Go.ChangeShapes Go.WideShapes Go.ChangeAt Go.RowKit

def bvals (l : List UInt8) : List Value := l.map fun c => Value.int .u8 (c.toNat : Int)
/-- a reader's three cells -/
structure Rd (w : World) (b : Nat) (s : ByteArray) (k : Nat) (v : Value) (T : List UInt8) : Prop where
  row : w.heap[b]? = some (.cells #[.string s, .int .i64 k, v] 79 (0, 0))
  own : w.ownsRow (b + 1) 5 1 v T.length (bvals T)
  hk : k ≤ s.size
theorem Rd.lt {w : World} {b : Nat} {s : ByteArray} {k : Nat} {v : Value} {T : List UInt8} (h : Rd w b s k v T) : b < w.heap.size := (Array.getElem?_eq_some_iff.1 h.row).1
theorem Rd.c0 {w : World} {b : Nat} {s : ByteArray} {k : Nat} {v : Value} {T : List UInt8} (h : Rd w b s k v T) : w.cell? ⟨b, 0, none⟩ = some (.string s) := by
  unfold World.cell?; simp only [h.row]; rfl
theorem Rd.c1 {w : World} {b : Nat} {s : ByteArray} {k : Nat} {v : Value} {T : List UInt8} (h : Rd w b s k v T) : w.cell? ⟨b, 1, none⟩ = some (.int .i64 k) := by
  unfold World.cell?; simp only [h.row]; rfl
theorem Rd.c2 {w : World} {b : Nat} {s : ByteArray} {k : Nat} {v : Value} {T : List UInt8} (h : Rd w b s k v T) : w.cell? ⟨b, 2, none⟩ = some v := by
  unfold World.cell?; simp only [h.row]; rfl
theorem Rd.f {w : World} {b : Nat} {s : ByteArray} {k : Nat} {v : Value} {T : List UInt8} (h : Rd w b s k v T) (o : Nat) : w.frozen? ⟨b, o, none⟩ = false := by
  unfold World.frozen?; simp only [h.row]; rfl
theorem Rd.keep {w w' : World} {b : Nat} {s : ByteArray} {k : Nat} {v : Value} {T : List UInt8} (h : Rd w b s k v T) (hh : w'.heap = w.heap) : Rd w' b s k v T := by
  obtain ⟨h1, h2, h3⟩ := h
  refine ⟨by rw [hh]; exact h1, ⟨h2.1, ?_⟩, h3⟩
  rcases h2.2 with h | ⟨g, cap, cur, e, hb, hg, r⟩
  · exact .inl h
  · exact .inr ⟨g, cap, cur, e, hb, by rw [hh]; exact hg, r⟩
theorem Rd.drewN {w : World} {b : Nat} {s : ByteArray} {k : Nat} {v : Value} {T : List UInt8} (h : Rd w b s k v T) (n : Nat) : Rd (w.drewN n) b s k v T := h.keep rfl
theorem below_drewN {B : Nat} {a w : World} (h : Below B a w) (n : Nat) : Below B a (w.drewN n) := h.trans ⟨rfl, rfl, rfl, Nat.le_refl _, fun _ _ => rfl⟩
theorem Rd.move {w : World} {b : Nat} {s : ByteArray} {k : Nat} {v : Value} {T : List UInt8} (h : Rd w b s k v T) (k' : Nat) (hk : k' ≤ s.size) : Rd (w.setCell ⟨b, 1, none⟩ (.int .i64 k')) b s k' v T := by
  obtain ⟨h1, h2, h3⟩ := h
  refine ⟨?_, ⟨h2.1, ?_⟩, hk⟩
  · rw [heap_setCell_same w b 1 _ 79 _ h1]; rfl
  · rcases h2.2 with h | ⟨g, cap, cur, e, hb, hg, r⟩
    · exact .inl h
    · refine .inr ⟨g, cap, cur, e, hb, ?_, r⟩
      rw [Below.heap_setCell _ _ _ _ (by show g ≠ b; omega)]; exact hg
theorem at_of (s : ByteArray) (k : Nat) (h : k < s.size) : s.data.toList[k]? = some s[k] := by
  rw [List.getElem?_eq_getElem (by simpa using h)]; simp [ByteArray.getElem_eq_getElem_data]
theorem bytes_eq (a b : UInt8) : ((a.toNat : Int) == (b.toNat : Int)) = decide (a = b) := by
  rw [Bool.eq_iff_iff, beq_iff_eq, decide_eq_true_iff]
  exact ⟨fun h => UInt8.toNat_inj.1 (by omega), fun h => by rw [h]⟩
theorem bytes_n (a b : UInt8) (n : Int) (hn : (b.toNat : Int) = n) : ((a.toNat : Int) == n) = decide (a = b) := by
  rw [← hn]; exact bytes_eq a b

/-- is a byte a mark? -/
def mark? (c : UInt8) : Bool := decide (c = 39) || decide (c = 34) || decide (c = 96)
theorem mark_any (c : UInt8) (w : World) :
    Calls Tryd.prog 46 #[.int .u8 c.toNat] w fun e w' => e = .returned (.bool (mark? c)) ∧ w' = w := by
  have b1 := bytes_n c 39 39 rfl
  have b2 := bytes_n c 34 34 rfl
  have b3 := bytes_n c 96 96 rfl
  unfold mark?
  go_enter Tryd.func46, Tryd.ntmps46
  cases h1 : decide (c = 39) <;> cases h2 : decide (c = 34) <;> cases h3 : decide (c = 96) <;> rw [h1] at b1 <;> rw [h2] at b2 <;> rw [h3] at b3
  all_goals
    (go_wp2
     go_ret
     exact ⟨rfl, rfl⟩)

/-- so many digits of a base at the head of a text: their number, and what is left -/
def numOf (base : Nat) : Nat → Nat → List UInt8 → Option (Nat × List UInt8)
  | 0, n, l => some (n, l)
  | _ + 1, _, [] => none
  | d + 1, n, c :: t => if 0 ≤ hexOf c.toNat ∧ hexOf c.toNat < base then numOf base d (n * base + (hexOf c.toNat).toNat) t else none
theorem hex_le (r : Int) : hexOf r ≤ 15 := by
  unfold hexOf; split
  · omega
  · split
    · omega
    · split <;> omega
end Go.Proofs.YtoffjpgobhcipaaDoor

/-
  Layer 6: contract of the reader's number.
-/
namespace Go.Proofs.YtoffjpgobhcipaaDoor
open Go.ChangeShapes Go.WideShapes Go.ChangeAt Go.RowKit

/-- what number answers -/
def numAns (o : Option (Nat × List UInt8)) : Ending :=
  match o with
  | some (n, _) => .returned (.tuple #[.int .i64 n, .bool true])
  | none => .returned (.tuple #[.int .i64 0, .bool false])
theorem numOf_step {base d n : Nat} {c : UInt8} {t : List UInt8} (h : 0 ≤ hexOf c.toNat ∧ hexOf c.toNat < base) : numOf base (d + 1) n (c :: t) = numOf base d (n * base + (hexOf c.toNat).toNat) t := by
  conv => lhs; unfold numOf
  rw [if_pos h]
theorem numOf_stop {base d n : Nat} {c : UInt8} {t : List UInt8} (h : ¬ (0 ≤ hexOf c.toNat ∧ hexOf c.toNat < base)) : numOf base (d + 1) n (c :: t) = none := by
  conv => lhs; unfold numOf
  rw [if_neg h]
theorem drop_at (s : ByteArray) (k : Nat) (h : k < s.size) : s.data.toList.drop k = s[k] :: s.data.toList.drop (k + 1) := by
  rw [List.drop_eq_getElem_cons (by simpa using h)]; simp [ByteArray.getElem_eq_getElem_data]

set_option maxRecDepth 100000 in
set_option maxHeartbeats 4000000 in
theorem number_any (s : ByteArray) (hs : s.size ≤ 140737488355328) (digits base : Nat) (hd : digits ≤ 8) (hb : base ≤ 16) (b k : Nat) (v : Value) (T : List UInt8) (w : World) (hR : Rd w b s k v T) :
    Calls Tryd.prog 88 #[.pointer (some ⟨b, 0, none⟩), .int .i64 digits, .int .i64 base] w fun e w' => e = numAns (numOf base digits 0 (s.data.toList.drop k)) ∧ (∀ n r, numOf base digits 0 (s.data.toList.drop k) = some (n, r) → Rd w' b s (k + digits) v T) ∧ Below b w w' := by
  obtain ⟨A, hA⟩ : ∃ A, A = numOf base digits 0 (s.data.toList.drop k) := ⟨_, rfl⟩
  rw [← hA]
  have HA := Lib.hid (show A = numOf base (digits - 0) 0 (s.data.toList.drop (k + 0)) from hA)
  have HR := Lib.hid hR
  clear hA hR
  go_enter Tryd.func88, Tryd.ntmps88
  go_wp2
  go_loopg [8, 11] digits (fun g nv iv wr => ∃ i n : Nat, g = digits - i ∧ i ≤ digits ∧ nv = .int .i64 n ∧ iv = .int .i64 i ∧ Hid (Rd wr b s (k + i) v T) ∧ Below b w wr ∧ Hid (n < 16 ^ i) ∧ Hid (A = numOf base (digits - i) n (s.data.toList.drop (k + i))))
  case atStart => exact ⟨0, 0, rfl, Nat.zero_le _, rfl, rfl, HR, Below.refl _ _, Lib.hid (by decide), HA⟩
  case round =>
    obtain ⟨i, n, rfl, hi, rfl, rfl, hRd, hB, hN, hAn⟩ := hrel
    by_cases hlt : i < digits
    · have hn7 : n < 268435456 := by
        have h1 := hN.out
        have h2 : 16 ^ i ≤ 16 ^ 7 := Nat.pow_le_pow_right (by decide) (by omega)
        have : (16 : Nat) ^ 7 = 268435456 := by decide
        omega
      have c0 := hRd.out.c0
      have c1 := hRd.out.c1
      have f1 := hRd.out.f 1
      have hks := hRd.out.hk
      obtain ⟨K, hK⟩ : ∃ K, K = k + i := ⟨_, rfl⟩
      rw [← hK] at c1 hks
      by_cases hin : K < s.size
      · have d1 : decide (s.size ≤ K) = false := decide_eq_false (by omega)
        have d2 : (K : Int) < s.size := by omega
        have d3 : (0 : Int) ≤ K := by omega
        have hdr : s.data.toList.drop (k + i) = s[K] :: s.data.toList.drop (K + 1) := by rw [← hK]; exact drop_at s K hin
        have hst : A = numOf base ((digits - (i + 1)) + 1) n (s[K] :: s.data.toList.drop (K + 1)) := by
          rw [hAn.out, hdr, show digits - i = digits - (i + 1) + 1 by omega]
        have w0 : IntKind.i32.wrap (s[K].toNat : Int) = (s[K].toNat : Int) := by
          have := s[K].toNat_lt
          rw [IntKind.wrap_i32]; omega
        have hHv := hex_le (s[K].toNat : Int)
        obtain ⟨D, hD⟩ : ∃ D, D = hexOf (s[K].toNat : Int) := ⟨_, rfl⟩
        have hbs := fun w => base_any (s[K].toNat : Int) w
        rw [← hD] at hHv hbs
        by_cases hok : 0 ≤ D ∧ D < base
        · have hA2 : A = numOf base (digits - (i + 1)) (n * base + D.toNat) (s.data.toList.drop (K + 1)) := by
            rw [hst, numOf_step (by rw [← hD]; exact hok), ← hD]
          obtain ⟨dn, hdn⟩ : ∃ dn : Nat, D = (dn : Int) := ⟨D.toNat, by omega⟩
          subst hdn
          have hA3 := Lib.hid (show A = numOf base (digits - (i + 1)) (n * base + dn) (s.data.toList.drop (k + (i + 1))) by
            rw [hA2, hK]; rfl)
          have hdb : dn < base := by omega
          have hN2 := Lib.hid (show n * base + dn < 16 ^ (i + 1) by
            have h1 := hN.out
            have h2 : n * base ≤ n * 16 := Nat.mul_le_mul_left n hb
            rw [Nat.pow_succ]
            omega)
          have hmul : n * base ≤ 268435456 * 16 := Nat.mul_le_mul (by omega) hb
          have w2 : IntKind.i64.wrap ((n : Int) * (base : Int)) = ((n * base : Nat) : Int) := by rw [IntKind.wrap_i64]; omega
          have w3 : IntKind.i64.wrap (((n * base : Nat) : Int) + (dn : Int)) = ((n * base + dn : Nat) : Int) := by rw [IntKind.wrap_i64]; omega
          have hRm := Lib.hid (show ∀ m, Rd ((wr.drewN m).setCell ⟨b, 1, none⟩ (.int .i64 ((K + 1 : Nat) : Int))) b s (k + (i + 1)) v T by
            intro m
            have := (hRd.out.drewN m).move (K + 1) (by omega)
            rw [hK] at this ⊢
            exact this)
          have hBm := Lib.hid (show ∀ m, Below b w ((wr.drewN m).setCell ⟨b, 1, none⟩ (.int .i64 ((K : Int) + 1))) from fun m => (below_drewN hB m).setCell (p := ⟨b, 1, none⟩) (Nat.le_refl _) _)
          have d4 : ¬ (dn : Int) < 0 := by omega
          have d5 : ¬ (base : Int) ≤ (dn : Int) := by omega
          have HW3 := Lib.hid (show wrap64 ((n : Int) * (base : Int) + (dn : Int)) = ((n * base + dn : Nat) : Int) by
            have e : (n : Int) * (base : Int) = ((n * base : Nat) : Int) := by simp
            rw [e]; unfold wrap64; omega)
          clear hA2 hst hdr hD hok hmul hAn hN hK
          go_upto_region 4 with fail
          go_quiet (fail)
          go_upto_region 6 with fail
          go_quiet ((go_at_call 98; refine (hbs _).mono ?_; rintro e w' ⟨rfl, rfl⟩; exact ⟨rfl, _, rfl⟩))
          go_wp2
          go_roundg (digits - (i + 1))
          case measure => omega
          case rel => exact ⟨i + 1, n * base + dn, rfl, by omega, by rw [HW3.out], by go_num, Lib.hid (hRm.out _), hBm.out _, hN2, hA3⟩
        · have hAz : A = none := by rw [hst, numOf_stop (by rw [← hD]; exact hok)]
          subst hAz
          clear hst hdr hD hAn hN hK
          by_cases hneg : D < 0
          · clear hok
            go_upto_region 4 with fail
            go_quiet (fail)
            go_upto_region 6 with fail
            go_quiet ((go_at_call 98; refine (hbs _).mono ?_; rintro e w' ⟨rfl, rfl⟩; exact ⟨rfl, _, rfl⟩))
            go_wp2
            go_ret2
            first
              | exact ⟨rfl, fun _ _ h => (by cases h), below_drewN hB _⟩
              | exact ⟨rfl, below_drewN hB _⟩
          · have d5 : (base : Int) ≤ D := by omega
            clear hok
            go_upto_region 4 with fail
            go_quiet (fail)
            go_upto_region 6 with fail
            go_quiet ((go_at_call 98; refine (hbs _).mono ?_; rintro e w' ⟨rfl, rfl⟩; exact ⟨rfl, _, rfl⟩))
            go_wp2
            go_ret2
            first
              | exact ⟨rfl, fun _ _ h => (by cases h), below_drewN hB _⟩
              | exact ⟨rfl, below_drewN hB _⟩
      · have d1 : decide (s.size ≤ K) = true := decide_eq_true (by omega)
        have hAz : A = none := by
          rw [hAn.out, List.drop_of_length_le (by simp; omega), show digits - i = (digits - i - 1) + 1 by omega]; rfl
        subst hAz
        go_upto_region 4 with fail
        go_quiet (fail)
        go_wp2
        go_ret2
        exact ⟨rfl, fun _ _ h => (by cases h), below_drewN hB _⟩
    · have hid : i = digits := by omega
      have hAz : A = some (n, s.data.toList.drop (k + digits)) := by rw [hAn.out, hid, Nat.sub_self]; rfl
      subst hAz
      have hRe := Lib.hid (show Rd _ b s (k + digits) v T by rw [← hid]; exact hRd.out)
      go_wp2
      go_ret2
      exact ⟨rfl, fun _ _ _ => hRe.out, hB⟩
end Go.Proofs.YtoffjpgobhcipaaDoor

/-
  Layer 6: contract of the reader's say.
-/
namespace Go.Proofs.YtoffjpgobhcipaaDoor
open Go.ChangeShapes Go.WideShapes Go.ChangeAt Go.RowKit

theorem info5 : (Tryd.prog.info? 5).map (fun i => (i.zero, i.size, i.bytes)) = some (some (.int .u8 0), 1, 1) := by kernel_rfl
theorem one_new (w : World) (x : Value) (t : TypeId) : ∀ j u, [x][j]? = some u → (w.alloc (.cells #[x] t)).cell? ((⟨w.heap.size, 0, none⟩ : Addr).add j) = some u := by
  intro j u hj
  match j, hj with
  | 0, hj => simp at hj; subst hj; simp [Addr.add]
  | j + 1, hj => simp at hj
theorem bvals_len (l : List UInt8) : (bvals l).length = l.length := by simp [bvals]
theorem bvals_app (a b : List UInt8) : bvals (a ++ b) = bvals a ++ bvals b := by simp [bvals]
theorem strCells_eq (s : ByteArray) : Lib.strCells s = bvals s.data.toList := by simp [Lib.strCells, bvals]
theorem Rd.alloc {w : World} {b : Nat} {s : ByteArray} {k : Nat} {v : Value} {T : List UInt8} (h : Rd w b s k v T) (o : Obj) : Rd (w.alloc o) b s k v T := by
  have hl := h.lt
  refine ⟨?_, h.own.alloc o, h.hk⟩
  show (w.heap.push o)[b]? = _
  rw [Array.getElem?_push, if_neg (by omega)]
  exact h.row
/-- behind an append to what is said, ahead of the store -/
theorem Rd.grew {w w1 : World} {b : Nat} {s : ByteArray} {k : Nat} {v v' : Value} {T L : List UInt8} (h : Rd w b s k v T) (ho : w1.ownsRow (b + 1) 5 1 v' (T.length + L.length) (bvals T ++ bvals L)) (hg : w.grownBy w1 v.ownBlock) :
    w1.heap[b]? = some (.cells #[.string s, .int .i64 k, v] 79 (0, 0)) ∧ Rd (w1.setCell ⟨b, 2, none⟩ v') b s k v' (T ++ L) ∧ Below b w (w1.setCell ⟨b, 2, none⟩ v') := by
  have hl := h.lt
  have hne : some b ≠ v.ownBlock := by
    intro e
    have := (h.own.lt b e.symm).1
    omega
  have h1 : w1.heap[b]? = some (.cells #[.string s, .int .i64 k, v] 79 (0, 0)) := by rw [hg.block b hl hne]; exact h.row
  refine ⟨h1, ⟨?_, ?_, h.hk⟩, ?_⟩
  · rw [heap_setCell_same w1 b 2 _ 79 _ h1]; rfl
  · rw [List.length_append, bvals_app]
    refine ⟨ho.1, ?_⟩
    rcases ho.2 with h | ⟨g, cap, cur, e, hb, hgg, r⟩
    · exact .inl h
    · refine .inr ⟨g, cap, cur, e, hb, ?_, r⟩
      rw [Below.heap_setCell _ _ _ _ (by show g ≠ b; omega)]; exact hgg
  · have hb1 : Below b w w1 := (Below.refl b w).grown hg (by omega) (fun q hq => by have := (h.own.lt q hq).1; omega)
    exact hb1.setCell (p := ⟨b, 2, none⟩) (Nat.le_refl _) _
theorem own_slice {w : World} {base : Nat} {e : TypeId} {v : Value} {m : Nat} {xs : List Value} (h : w.ownsRow base e 1 v m xs) : ∃ a n cap, v = .slice a n cap := by
  rcases h.2 with ⟨hv, _⟩ | ⟨g, cap, cur, hv, _⟩
  · exact ⟨_, _, _, hv⟩
  · exact ⟨_, _, _, hv⟩

/-- what an escape by a number says -/
def sayOf (n : Nat) (m : UInt8) (tells : Bool) : Option (List UInt8) :=
  if tells = true ∧ m = 34 then some [UInt8.ofNat n] else if 1114111 < n then none else if isChar n = true then some (form n) else none
theorem form_none {r : Int} (h : isChar r = false) : form r = [] := by simp [form, h]
theorem form_some {r : Int} (h : isChar r = true) : form r ≠ [] := by
  intro e
  have := form_len r h
  rw [e] at this
  simp at this
set_option maxRecDepth 100000 in
set_option maxHeartbeats 4000000 in
theorem say_any (s : ByteArray) (n : Nat) (m : UInt8) (tells : Bool) (hn : n ≤ 4294967295) (ht : tells = true → n ≤ 255) (b k : Nat) (v : Value) (T : List UInt8) (hT : T.length ≤ 140737488351232) (w : World) (hR : Rd w b s k v T) :
    Calls Tryd.prog 89 #[.pointer (some ⟨b, 0, none⟩), .int .i64 n, .int .u8 m.toNat, .bool tells] w fun e w' => e = .returned (.bool (sayOf n m tells).isSome) ∧ (∀ L, sayOf n m tells = some L → ∃ v', Rd w' b s k v' (T ++ L)) ∧ Below b w w' := by
  obtain ⟨i0, hi, hz0, hz1, hz2⟩ := info_parts info5
  have bm := bytes_n m 34 34 rfl
  have c2 := hR.c2
  have f2 := hR.f 2
  have hlt := hR.lt
  by_cases hby : tells = true ∧ m = 34
  · have hA : sayOf n m tells = some [UInt8.ofNat n] := by unfold sayOf; rw [if_pos hby]
    rw [hA]
    obtain ⟨rfl, rfl⟩ := hby
    have hn2 := ht rfl
    have wn : IntKind.u8.wrap (n : Int) = ((UInt8.ofNat n).toNat : Int) := by
      have : (UInt8.ofNat n).toNat = n % 256 := by simp
      rw [this, IntKind.wrap_u8]; omega
    have HR := Lib.hid (hR.alloc (.cells #[.int .u8 ((UInt8.ofNat n).toNat : Int)] 5))
    have hB0 : Below b w (w.alloc (.cells #[.int .u8 ((UInt8.ofNat n).toNat : Int)] 5)) := (Below.refl b w).alloc (by omega) _
    have hO := hR.own
    have b34 : (((34 : UInt8).toNat : Int) == 34) = true := rfl
    clear hR hA bm
    go_enter Tryd.func89, Tryd.ntmps89
    go_wp2_with (at_builtin; refine wpList_append_own _ rfl _ _ 40 rfl (b + 1) 5 i0 (.int .u8 0) 1 1 Tryd.underlying40 hi hz0 hz1 hz2 rfl (by decide) _ _ _ rfl (hO.alloc _) ⟨w.heap.size, 0, none⟩ 1 1 [.int .u8 ((UInt8.ofNat n).toNat : Int)] rfl rfl ?c1 ?c2 ?c3 ?c4 ?c5 ?_)
    try any_goals (first | rfl | (unfold maxLen; omega) | omega | exact one_new _ _ _ | (intro u hu; simp at hu; subst hu; rfl; done) | (simp; omega))
    intro v' w1 hown' hgrow _
    obtain ⟨g1, g2, g3⟩ := HR.out.grew (L := [UInt8.ofNat n]) hown' hgrow
    obtain ⟨ao, nn, cap, rfl⟩ := own_slice hown'
    have d2 : w1.frozen? ⟨b, 2, none⟩ = false := by unfold World.frozen?; simp only [g1]; rfl
    have d3 : w1.cell? ⟨b, 2, none⟩ = some v := by unfold World.cell?; simp only [g1]; rfl
    have G := Lib.hid (And.intro g2 (hB0.trans g3))
    clear g1 g2 g3 hown' hgrow hO
    go_wp2
    go_ret
    exact ⟨rfl, (fun L hL => by cases hL; exact ⟨_, G.out.1⟩), G.out.2⟩
  · have hg : decide (tells = true ∧ m = 34) = false := decide_eq_false hby
    have hA : sayOf n m tells = if 1114111 < n then none else if isChar n = true then some (form n) else none := by unfold sayOf; rw [if_neg hby]
    have hgu : tells = false ∨ ((m.toNat : Int) == 34) = false := by
      cases tells with
      | false => exact .inl rfl
      | true =>
        right
        rw [bm]
        exact decide_eq_false fun e => hby ⟨rfl, e⟩
    clear hby hg bm
    by_cases hbig : 1114111 < n
    · have hA2 : sayOf n m tells = none := by rw [hA, if_pos hbig]
      rw [hA2]
      have d1 : (1114111 : Int) < n := by omega
      clear hA hA2 hR
      rcases hgu with rfl | hgm
      · go_enter Tryd.func89, Tryd.ntmps89
        go_wp2
        go_ret
        (first | exact ⟨rfl, (fun L hL => by cases hL), Below.refl _ _⟩ | exact ⟨rfl, Below.refl _ _⟩ | exact Below.refl _ _)
      · cases tells
        all_goals
          (go_enter Tryd.func89, Tryd.ntmps89
           go_wp2
           go_ret
           (first | exact ⟨rfl, (fun L hL => by cases hL), Below.refl _ _⟩ | exact ⟨rfl, Below.refl _ _⟩ | exact Below.refl _ _))
    · have d1 : ¬ (1114111 : Int) < n := by omega
      have wn : IntKind.i32.wrap (n : Int) = (n : Int) := by rw [IntKind.wrap_i32]; omega
      have hA2 : sayOf n m tells = if isChar n = true then some (form n) else none := by rw [hA, if_neg hbig]
      have hF := fun w => form_any (n : Int) w
      obtain ⟨F, hFe⟩ : ∃ F : ByteArray, F = ⟨(form n).toArray⟩ := ⟨_, rfl⟩
      have hFl : F.data.toList = form n := by rw [hFe]
      rw [← hFe] at hF
      have hFs : F.size = (form n).length := by rw [← hFl]; simp
      have hf4 : F.size ≤ 4 := by
        rw [hFs]
        cases hc : isChar n with
        | true => have := form_len n hc; omega
        | false => rw [form_none hc]; simp
      have hemp : F.toList.isEmpty = !isChar n := by
        have e : F.toList = F.data.toList := by
          unfold ByteArray.toList
          rw [ByteArray.toList_loop_eq F F.size 0 [] (by omega) (by omega)]; simp
        rw [e, hFl]
        cases hc : isChar n with
        | true =>
          have := form_some hc
          cases h : form (n : Int) with
          | nil => exact absurd h this
          | cons => rfl
        | false => rw [form_none hc]; rfl
      have HR := Lib.hid hR
      have hO := hR.own
      have HA := Lib.hid hA2
      have HFL := Lib.hid (And.intro hFl hFs)
      clear hA hA2 hR hFe hFl hFs hbig
      have key : ∀ (v' : Value) (w1 : World), w1.ownsRow (b + 1) 5 1 v' (T.length + F.size) (bvals T ++ Lib.strCells F) → w.grownBy w1 v.ownBlock →
          w1.heap[b]? = some (.cells #[.string s, .int .i64 k, v] 79 (0, 0)) ∧ (Rd (w1.setCell ⟨b, 2, none⟩ v') b s k v' (T ++ form n)) ∧ Below b w (w1.setCell ⟨b, 2, none⟩ v') := by
        intro v' w1 ho hg
        rw [strCells_eq, HFL.out.1, HFL.out.2] at ho
        exact HR.out.grew ho hg
      have KEY := Lib.hid key
      clear key
      rcases hgu with rfl | hgm
      · go_enter Tryd.func89, Tryd.ntmps89
        go_wp2_with (first
          | (go_at_call 80; refine (hF _).mono ?_; rintro e w1 ⟨rfl, rfl⟩)
          | (at_builtin; refine Lib.wpList_append_own_string _ rfl _ _ 40 9 rfl (b + 1) 5 i0 Tryd.underlying40 Tryd.underlying9 hi hz0 hz1 hz2 _ _ _ rfl hO F rfl (by unfold maxLen; omega) (by omega) (by omega) ?_))
        try any_goals (first | rfl | (unfold maxLen; omega) | omega | exact one_new _ _ _ | (intro u hu; simp at hu; subst hu; rfl; done) | (simp; omega))
        intro v' w1 hown' hgrow _
        obtain ⟨g1, g2, g3⟩ := KEY.out _ _ hown' hgrow
        obtain ⟨ao, nn, cap, rfl⟩ := own_slice hown'
        have d2 : w1.frozen? ⟨b, 2, none⟩ = false := by unfold World.frozen?; simp only [g1]; rfl
        have d3 : w1.cell? ⟨b, 2, none⟩ = some v := by unfold World.cell?; simp only [g1]; rfl
        have G := Lib.hid (And.intro g2 g3)
        clear g1 g2 g3 hown' hgrow hO
        cases hc : isChar n with
        | true =>
          rw [hc] at hemp
          have hA3 := Lib.hid (show sayOf n m _ = some (form n) by rw [HA.out, if_pos hc])
          clear hc
          go_wp2
          go_ret
          exact ⟨by rw [hA3.out]; rfl, (fun L hL => by rw [hA3.out] at hL; cases hL; exact ⟨_, G.out.1⟩), G.out.2⟩
        | false =>
          rw [hc] at hemp
          have hA3 := Lib.hid (show sayOf n m _ = none by rw [HA.out, if_neg (by rw [hc]; decide)])
          clear hc
          go_wp2
          go_ret
          exact ⟨by rw [hA3.out]; rfl, (fun L hL => by rw [hA3.out] at hL; cases hL), G.out.2⟩
      · cases tells
        all_goals
          go_enter Tryd.func89, Tryd.ntmps89
          go_wp2_with (first
            | (go_at_call 80; refine (hF _).mono ?_; rintro e w1 ⟨rfl, rfl⟩)
            | (at_builtin; refine Lib.wpList_append_own_string _ rfl _ _ 40 9 rfl (b + 1) 5 i0 Tryd.underlying40 Tryd.underlying9 hi hz0 hz1 hz2 _ _ _ rfl hO F rfl (by unfold maxLen; omega) (by omega) (by omega) ?_))
          try any_goals (first | rfl | (unfold maxLen; omega) | omega | exact one_new _ _ _ | (intro u hu; simp at hu; subst hu; rfl; done) | (simp; omega))
          intro v' w1 hown' hgrow _
          obtain ⟨g1, g2, g3⟩ := KEY.out _ _ hown' hgrow
          obtain ⟨ao, nn, cap, rfl⟩ := own_slice hown'
          have d2 : w1.frozen? ⟨b, 2, none⟩ = false := by unfold World.frozen?; simp only [g1]; rfl
          have d3 : w1.cell? ⟨b, 2, none⟩ = some v := by unfold World.cell?; simp only [g1]; rfl
          have G := Lib.hid (And.intro g2 g3)
          clear g1 g2 g3 hown' hgrow hO
          cases hc : isChar n with
          | true =>
            rw [hc] at hemp
            have hA3 := Lib.hid (show sayOf n m _ = some (form n) by rw [HA.out, if_pos hc])
            clear hc
            go_wp2
            go_ret
            exact ⟨by rw [hA3.out]; rfl, (fun L hL => by rw [hA3.out] at hL; cases hL; exact ⟨_, G.out.1⟩), G.out.2⟩
          | false =>
            rw [hc] at hemp
            have hA3 := Lib.hid (show sayOf n m _ = none by rw [HA.out, if_neg (by rw [hc]; decide)])
            clear hc
            go_wp2
            go_ret
            exact ⟨by rw [hA3.out]; rfl, (fun L hL => by rw [hA3.out] at hL; cases hL), G.out.2⟩
end Go.Proofs.YtoffjpgobhcipaaDoor

/-
  Layer 6: contract of the reader's rawText.
-/
namespace Go.Proofs.YtoffjpgobhcipaaDoor
open Go.ChangeShapes Go.WideShapes Go.ChangeAt Go.RowKit

/-- a raw string behind its first mark: what it says, where it ends -/
def rawOf : Nat → List UInt8 → List UInt8 → Option (List UInt8 × Nat)
  | _, _, [] => none
  | k, acc, c :: t => if c = 96 then some (acc, k + 1) else rawOf (k + 1) (if c = 13 then acc else acc ++ [c]) t

theorem one_at (w : World) (x : Value) (t : TypeId) (g : Nat) (hg : w.heap.size = g) : ∀ j u, [x][j]? = some u → (w.alloc (.cells #[x] t)).cell? ((⟨g, 0, none⟩ : Addr).add j) = some u := by
  subst hg; exact one_new w x t
theorem rawOf_step (k : Nat) (acc : List UInt8) (c : UInt8) (t : List UInt8) : rawOf k acc (c :: t) = if c = 96 then some (acc, k + 1) else rawOf (k + 1) (if c = 13 then acc else acc ++ [c]) t := rfl
set_option maxRecDepth 100000 in
set_option maxHeartbeats 4000000 in
theorem raw_any (s : ByteArray) (hs : s.size ≤ 140737488351232) (b k : Nat) (v : Value) (T : List UInt8) (hT : T.length ≤ k) (w : World) (hR : Rd w b s k v T) :
    Calls Tryd.prog 63 #[.pointer (some ⟨b, 0, none⟩)] w fun e w' => e = .returned (.bool (rawOf k T (s.data.toList.drop k)).isSome) ∧ (∀ L k', rawOf k T (s.data.toList.drop k) = some (L, k') → (∃ v', Rd w' b s k' v' L)) ∧ Below b w w' := by
  obtain ⟨i0, hi, hz0, hz1, hz2⟩ := info_parts info5
  obtain ⟨A, hA⟩ : ∃ A, A = rawOf k T (s.data.toList.drop k) := ⟨_, rfl⟩
  rw [← hA]
  have HA := Lib.hid hA
  have HR := Lib.hid hR
  have hk := hR.hk
  clear hA hR
  go_enter Tryd.func63, Tryd.ntmps63
  go_wp2
  go_loopg [] (s.size - k) (fun g wr => ∃ (i : Nat) (v : Value) (T : List UInt8), g = s.size - i ∧ i ≤ s.size ∧ T.length ≤ i ∧ Hid (Rd wr b s i v T) ∧ Below b w wr ∧ Hid (A = rawOf i T (s.data.toList.drop i)))
  case atStart => exact ⟨k, v, T, rfl, hk, hT, HR, Below.refl _ _, HA⟩
  case round =>
    obtain ⟨i, v, T, rfl, hi', hTi, hRd, hB, hAi⟩ := hrel
    have c0 := hRd.out.c0
    have c1 := hRd.out.c1
    have f1 := hRd.out.f 1
    have hlt2 := hRd.out.lt
    by_cases hlt : i < s.size
    · have d1 : decide (i < s.size) = true := decide_eq_true hlt
      have d2 : (i : Int) < s.size := by omega
      have d3 : (0 : Int) ≤ i := by omega
      have w1 : IntKind.i64.wrap ((i : Int) + 1) = (i : Int) + 1 := by rw [IntKind.wrap_i64]; omega
      have hst := hAi.out
      rw [drop_at s i hlt] at hst
      have HM := Lib.hid (show ∀ m, Rd ((wr.drewN m).setCell ⟨b, 1, none⟩ (.int .i64 ((i : Int) + 1))) b s (i + 1) v T from fun m => (hRd.out.drewN m).move (i + 1) (by omega))
      have hBm := Lib.hid (show ∀ m, Below b w ((wr.drewN m).setCell ⟨b, 1, none⟩ (.int .i64 ((i : Int) + 1))) from fun m => (below_drewN hB m).setCell (p := ⟨b, 1, none⟩) (Nat.le_refl _) _)
      have b96 := bytes_n s[i] 96 96 rfl
      have b13 := bytes_n s[i] 13 13 rfl
      by_cases h96 : s[i] = 96
      · have hA2 : A = some (T, i + 1) := by rw [hst, rawOf_step, if_pos h96]
        rw [decide_eq_true h96] at b96
        subst hA2
        clear hst b13 h96 hAi
        go_upto_region 1 with fail
        go_quiet (fail)
        go_upto_region 2 with fail
        go_quiet (fail)
        go_wp2
        go_ret
        exact ⟨rfl, (fun L k' h => by cases h; exact ⟨v, HM.out _⟩), hBm.out _⟩
      · rw [decide_eq_false h96] at b96
        by_cases h13 : s[i] = 13
        · have hA2 := Lib.hid (show A = rawOf (i + 1) T (s.data.toList.drop (i + 1)) by rw [hst, rawOf_step, if_neg h96, if_pos h13])
          rw [decide_eq_true h13] at b13
          have b13' : ((s[i].toNat : Int) != 13) = false := by rw [bne, b13]; rfl
          clear hst h96 h13 hAi b13
          go_upto_region 1 with fail
          go_quiet (fail)
          go_upto_region 2 with fail
          go_quiet (fail)
          go_wp2
          go_roundg (s.size - (i + 1))
          case measure => omega
          case rel => exact ⟨i + 1, v, T, rfl, by omega, by omega, Lib.hid (HM.out _), hBm.out _, hA2⟩
        · have hA2 := Lib.hid (show A = rawOf (i + 1) (T ++ [s[i]]) (s.data.toList.drop (i + 1)) by rw [hst, rawOf_step, if_neg h96, if_neg h13])
          rw [decide_eq_false h13] at b13
          have b13' : ((s[i].toNat : Int) != 13) = true := by rw [bne, b13]; rfl
          clear hst h96 h13 hAi b13
          go_upto_region 1 with fail
          go_quiet (fail)
          go_upto_region 2 with fail
          go_quiet (fail)
          have hcM := fun m => (HM.out m).c2
          go_wp2_with (at_builtin; refine wpList_append_own _ rfl _ _ 40 rfl (b + 1) 5 i0 (.int .u8 0) 1 1 Tryd.underlying40 hi hz0 hz1 hz2 rfl (by decide) _ _ _ rfl ((HM.out _).own.alloc _) ⟨_, 0, none⟩ 1 1 [.int .u8 (s[i].toNat : Int)] rfl rfl ?c1 ?c2 ?c3 ?c4 ?c5 ?_)
          try any_goals (first | rfl | (unfold maxLen; omega) | omega | exact one_new _ _ _ | exact one_at _ _ _ _ (by simp) | (intro u hu; simp at hu; subst hu; rfl; done) | (simp; omega))
          intro v' w1 hown' hgrow _
          obtain ⟨g1, g2, g3⟩ := ((HM.out _).alloc _).grew (L := [s[i]]) hown' hgrow
          obtain ⟨ao, nn, cap, rfl⟩ := own_slice hown'
          have d5 : w1.frozen? ⟨b, 2, none⟩ = false := by unfold World.frozen?; simp only [g1]; rfl
          have d6 : w1.cell? ⟨b, 2, none⟩ = some v := by unfold World.cell?; simp only [g1]; rfl
          have G := Lib.hid (And.intro g2 (((hBm.out _).alloc (Nat.le_of_lt (by simpa using hlt2)) _).trans g3))
          clear g1 g2 g3 hown' hgrow
          go_wp2
          go_roundg (s.size - (i + 1))
          case measure => omega
          case rel => exact ⟨i + 1, _, T ++ [s[i]], rfl, by omega, by simp; omega, Lib.hid G.out.1, G.out.2, hA2⟩
    · have d1 : decide (i < s.size) = false := decide_eq_false hlt
      have hAz : A = none := by rw [hAi.out, List.drop_of_length_le (by simp; omega)]; rfl
      subst hAz
      go_upto_region 1 with fail
      go_quiet (fail)
      go_wp2
      go_ret
      first
        | exact ⟨rfl, (fun _ _ h => by cases h), below_drewN hB _⟩
        | exact ⟨rfl, below_drewN hB _⟩
end Go.Proofs.YtoffjpgobhcipaaDoor
