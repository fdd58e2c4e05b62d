/-
  Texts M N O P Q R S of an earlier seat, under this one's numbers.
-/
import Derived.Test.YtoffjpgobhcipaaDoorQd
import Derived.Test.YtoffjpgobhcipaaDoorShelb
import Derived.Laws.Rows
import Derived.Deep.AppendLies
import Derived.Deep.RegionLaw
import Derived.OwnWalk
import Derived.Laws.CopyOwn
set_option maxRecDepth 100000
/-
  Layer 6: contracts of the document's number and small.
-/
namespace Go.Proofs.YtoffjpgobhcipaaDoor
open Go.ChangeShapes Go.WideShapes Go.ChangeAt Go.RowKit

/-- what the document's number answers -/
def docNum : Option (Nat × List UInt8) → Int
  | some (n, _) => n
  | none => -1
theorem numOf_short (base : Nat) : ∀ (d n : Nat) (l : List UInt8), l.length < d → numOf base d n l = none
  | 0, _, _, h => absurd h (by omega)
  | _ + 1, _, [], _ => rfl
  | d + 1, n, c :: t, h => by
    unfold numOf
    split
    · exact numOf_short base d _ t (by simp at h; omega)
    · rfl

theorem wrap_small (x : Int) (h : 0 ≤ x) (h1 : x ≤ 4294967312) : wrap64 x = x := by unfold wrap64; omega
theorem wrap_two (n base dn : Nat) (h : n * base ≤ 268435456 * 16) (hd : dn ≤ 15) : wrap64 (wrap64 ((n : Int) * (base : Int)) + (dn : Int)) = ((n * base + dn : Nat) : Int) := by
  rw [show (n : Int) * (base : Int) = ((n * base : Nat) : Int) by simp]
  generalize n * base = p at h
  rw [wrap_small (p : Int) (by omega) (by omega), wrap_small ((p : Int) + (dn : Int)) (by omega) (by omega)]
  omega
end Go.Proofs.YtoffjpgobhcipaaDoor

/-
  Layer 6: contract of the document's small.
-/
namespace Go.Proofs.YtoffjpgobhcipaaDoor
open Go.ChangeShapes Go.WideShapes Go.ChangeAt Go.RowKit

/-- what a number below 256 says -/
def smallOf (n : Nat) (m : UInt8) : List UInt8 := if m = 34 then [UInt8.ofNat n] else form n
end Go.Proofs.YtoffjpgobhcipaaDoor

/-
  Layer 6: the document's escape: a result that lies in a block of the call's own.
-/
namespace Go.Proofs.YtoffjpgobhcipaaDoor
open Go.ChangeShapes Go.WideShapes Go.ChangeAt Go.RowKit
/-- an item: how many bytes it has, what it says -/
def item (o : Option (List UInt8 × Nat)) : Value :=
  match o with
  | some (L, n) => .agg #[.int .i64 n, .string ⟨L.toArray⟩]
  | none => .agg #[.int .i64 0, .string ⟨#[]⟩]
end Go.Proofs.YtoffjpgobhcipaaDoor

/-
  Layer 6: strings.Builder at this program: copyCheck, WriteByte and WriteString.
-/
namespace Go.Proofs.YtoffjpgobhcipaaDoor
open Go.ChangeShapes Go.WideShapes Go.ChangeAt Go.RowKit

theorem size45 : (Tryd.prog.info? 42).map (·.size) = some 2 := by kernel_rfl
theorem copyCheck_used (b : Nat) (w : World) (h0 : w.cell? ⟨b, 0, none⟩ = some (.pointer (some ⟨b, 0, none⟩))) :
    Calls Tryd.prog 33 #[.pointer (some ⟨b, 0, none⟩)] w fun e w' => e = .returned (.tuple #[]) ∧ w' = w := by
  obtain ⟨j, hj, _⟩ := Option.map_eq_some_iff.1 size45
  go_enter Tryd.func33, Tryd.ntmps33
  go_wp2
  rw [Lib.run_neq_ptr_same w _ Tryd.underlying39 hj]
  go_wp2
  go_end0
  exact ⟨rfl, rfl⟩
theorem copyCheck_fresh (b : Nat) (w : World) (h0 : w.cell? ⟨b, 0, none⟩ = some (.pointer none)) (hsh : w.shape? b = some (42, 2)) (hfz : w.frozen? ⟨b, 0, none⟩ = false) :
    Calls Tryd.prog 33 #[.pointer (some ⟨b, 0, none⟩)] w fun e w' => e = .returned (.tuple #[]) ∧ w' = w.setCell ⟨b, 0, none⟩ (.pointer (some ⟨b, 0, none⟩)) := by
  obtain ⟨j, hj, hjs⟩ := Option.map_eq_some_iff.1 size45
  go_enter Tryd.func33, Tryd.ntmps33
  go_wp2
  rw [Lib.run_to_unsafe w ⟨b, 0, none⟩ Tryd.underlying39 Tryd.underlying73 hj (by rw [hjs]; decide) hsh (Nat.zero_lt_succ 1)]
  simp only [Result.andThen]
  rw [Oper.upon_value]
  go_wp2
  rw [run_callFunc_extern Tryd.func42 (by kernel_rfl) (by kernel_rfl) (by kernel_rfl) (e := Extern.AbiNoEscape.same) (by kernel_rfl)]
  rw [Lib.run_noEscape]
  simp only [Result.andThen]
  rw [Oper.upon_value]
  go_wp2
  rw [Lib.run_from_unsafe w ⟨b, 0, none⟩ Tryd.underlying73 Tryd.underlying39 hj hsh (by kernel_rfl)]
  simp only [Result.andThen]
  rw [Oper.upon_value]
  go_wp2
  go_end0
  exact ⟨rfl, rfl⟩
theorem copyCheck_any (B b : Nat) (bs : List Value) (w : World) (h : Lib.IsBuilder 42 5 B b bs w) :
    Calls Tryd.prog 33 #[.pointer (some ⟨b, 0, none⟩)] w fun e w' => e = .returned (.tuple #[]) ∧ (Lib.BuilderAt 42 5 B b (.pointer (some ⟨b, 0, none⟩)) bs w' ∧ Below B w w') := by
  rcases h with h | h
  · refine (copyCheck_fresh b w h.cell0 h.shape h.frozen0).mono ?_
    rintro e w' ⟨rfl, rfl⟩
    exact ⟨rfl, h.used _, (Below.refl B w).setCell (p := ⟨b, 0, none⟩) h.1 _⟩
  · refine (copyCheck_used b w h.cell0).mono ?_
    rintro e w' ⟨rfl, rfl⟩
    exact ⟨rfl, h, Below.refl B _⟩
theorem writeString_any (B b : Nat) (bs : List Value) (s : ByteArray) (w : World) (h : Lib.IsBuilder 42 5 B b bs w) (hlen : bs.length + s.size ≤ 140737488355328) (hBw : B ≤ w.heap.size) :
    Calls Tryd.prog 16 #[.pointer (some ⟨b, 0, none⟩), .string s] w fun e w' => e = .returned (.tuple #[.int .i64 s.size, .nilIface]) ∧ (Lib.BuilderAt 42 5 B b (.pointer (some ⟨b, 0, none⟩)) (bs ++ Lib.strCells s) w' ∧ Below B w w') := by
  obtain ⟨i0, hi, hz0, hz1, hz2⟩ := info_parts info5
  go_enter Tryd.func16, Tryd.ntmps16
  go_wp2_with (go_at_call 33; refine (copyCheck_any B b bs _ h).mono ?_)
  rintro e w1 ⟨rfl, h1, hb1⟩
  obtain ⟨hB, v, hbk, hown, hne⟩ := h1
  have c0 : w1.cell? ⟨b, 0, none⟩ = some (.pointer (some ⟨b, 0, none⟩)) := by rw [Lib.cell_of_heap hbk]; rfl
  have c1 : w1.cell? ⟨b, 1, none⟩ = some v := by rw [Lib.cell_of_heap hbk]; rfl
  go_wp2_with (at_builtin; refine Lib.wpList_append_own_string _ rfl _ _ 40 9 rfl B 5 i0 Tryd.underlying40 Tryd.underlying9 hi hz0 hz1 hz2 _ _ _ rfl hown s rfl ?c3 ?c4 ?c5 ?_)
  case c3 => unfold maxLen; omega
  case c4 => omega
  case c5 => have := hb1.size; omega
  intro v' w2 hown' hgrow _
  have hlt : b < w1.heap.size := (Array.getElem?_eq_some_iff.1 hbk).1
  have hb2 : w2.heap[b]? = some (.cells #[.pointer (some ⟨b, 0, none⟩), v] 42 (0, 0)) := by
    rw [hgrow.block b hlt (fun e => hne e.symm)]
    exact hbk
  have d0 : w2.cell? ⟨b, 0, none⟩ = some (.pointer (some ⟨b, 0, none⟩)) := by rw [Lib.cell_of_heap hb2]; rfl
  have d1 : w2.cell? ⟨b, 1, none⟩ = some v := by rw [Lib.cell_of_heap hb2]; rfl
  have f1 : w2.frozen? ⟨b, 1, none⟩ = false := Lib.frozen_of_heap hb2 1
  obtain ⟨ao, n', cap, rfl⟩ : ∃ ao n' cap, v' = .slice ao n' cap := by
    rcases hown'.2 with ⟨hv, _⟩ | ⟨g, cap, cur, hv, _⟩
    · exact ⟨_, _, _, hv⟩
    · exact ⟨_, _, _, hv⟩
  go_wp2
  go_ret2
  refine ⟨rfl, ?_, ?_⟩
  · exact Lib.BuilderAt.put (T := 42) (e := 5) hB hb2 (bs' := bs ++ Lib.strCells s) (by simpa [Lib.strCells_length] using hown') (by decide)
  · exact (hb1.grown hgrow (by have := hb1.size; omega) (fun k hk => (hown.lt k hk).1)).setCell (p := ⟨b, 1, none⟩) hB _
theorem writeByte_any (B b : Nat) (bs : List Value) (c : UInt8) (w : World) (h : Lib.IsBuilder 42 5 B b bs w) (hlen : bs.length + 1 ≤ 140737488355328) (hBw : B ≤ w.heap.size) :
    Calls Tryd.prog 15 #[.pointer (some ⟨b, 0, none⟩), .int .u8 c.toNat] w fun e w' => e = .returned .nilIface ∧ (Lib.BuilderAt 42 5 B b (.pointer (some ⟨b, 0, none⟩)) (bs ++ [.int .u8 c.toNat]) w' ∧ Below B w w') := by
  obtain ⟨i0, hi, hz0, hz1, hz2⟩ := info_parts info5
  go_enter Tryd.func15, Tryd.ntmps15
  go_wp2_with (go_at_call 33; refine (copyCheck_any B b bs _ h).mono ?_)
  rintro e w1 ⟨rfl, h1, hb1⟩
  obtain ⟨hB, v, hbk, hown, hne⟩ := h1
  have c0 : w1.cell? ⟨b, 0, none⟩ = some (.pointer (some ⟨b, 0, none⟩)) := by rw [Lib.cell_of_heap hbk]; rfl
  have c1 : w1.cell? ⟨b, 1, none⟩ = some v := by rw [Lib.cell_of_heap hbk]; rfl
  have hlt : b < w1.heap.size := (Array.getElem?_eq_some_iff.1 hbk).1
  have hB1 : B ≤ w1.heap.size := by have := hb1.size; omega
  go_wp2_with (at_builtin; refine wpList_append_own _ rfl _ _ 40 rfl B 5 i0 (.int .u8 0) 1 1 Tryd.underlying40 hi hz0 hz1 hz2 rfl (by decide) _ _ _ rfl (hown.alloc _) ⟨w1.heap.size, 0, none⟩ 1 1 [.int .u8 (c.toNat : Int)] rfl rfl ?c1 ?c2 ?c3 ?c4 ?c5 ?_)
  try any_goals (first | rfl | (unfold maxLen; omega) | omega | exact one_new _ _ _ | (intro u hu; simp at hu; subst hu; rfl; done) | (simp; omega))
  intro v' w2 hown' hgrow _
  have hb2 : w2.heap[b]? = some (.cells #[.pointer (some ⟨b, 0, none⟩), v] 42 (0, 0)) := by
    rw [hgrow.block b (by simp; omega) (fun e => hne e.symm)]
    show (w1.heap.push _)[b]? = _
    rw [Array.getElem?_push, if_neg (by omega)]
    exact hbk
  have d0 : w2.cell? ⟨b, 0, none⟩ = some (.pointer (some ⟨b, 0, none⟩)) := by rw [Lib.cell_of_heap hb2]; rfl
  have d1 : w2.cell? ⟨b, 1, none⟩ = some v := by rw [Lib.cell_of_heap hb2]; rfl
  have f1 : w2.frozen? ⟨b, 1, none⟩ = false := Lib.frozen_of_heap hb2 1
  obtain ⟨ao, n', cap, rfl⟩ := own_slice hown'
  go_wp2
  go_ret
  refine ⟨rfl, ?_, ?_⟩
  · exact Lib.BuilderAt.put (T := 42) (e := 5) hB hb2 (bs' := bs ++ [.int .u8 (c.toNat : Int)]) (by simpa using hown') (by decide)
  · exact ((hb1.alloc hB1 _).grown hgrow (by simp; omega) (fun k hk => (hown.lt k hk).1)).setCell (p := ⟨b, 1, none⟩) hB _
end Go.Proofs.YtoffjpgobhcipaaDoor

/-
  Layer 6: contract of quoted.Quote.
-/
namespace Go.Proofs.YtoffjpgobhcipaaDoor
open Go.ChangeShapes Go.WideShapes Go.ChangeAt Go.RowKit

/-- a small digit of base 16 -/
def hexd (n : Nat) : UInt8 := if n < 10 then UInt8.ofNat (48 + n) else UInt8.ofNat (87 + n)
/-- a byte as it stands within marks -/
def qb (c : UInt8) : List UInt8 :=
  if c = 34 ∨ c = 92 then [92, c] else if c = 10 then [92, 110] else if 32 ≤ c.toNat ∧ c.toNat ≤ 126 then [c] else [92, 120, hexd (c.toNat / 16), hexd (c.toNat % 16)]
theorem qb_len (c : UInt8) : (qb c).length ≤ 4 := by
  unfold qb; split
  · simp
  · split
    · simp
    · split <;> simp
def qbs (l : List UInt8) : List UInt8 := l.flatMap qb
theorem qbs_len : ∀ l : List UInt8, (qbs l).length ≤ 4 * l.length
  | [] => by simp [qbs]
  | c :: t => by
    have h1 := qb_len c
    have h2 := qbs_len t
    unfold qbs at h2 ⊢
    rw [List.flatMap_cons, List.length_append, List.length_cons]; omega
def quoteOf (l : List UInt8) : List UInt8 := 34 :: (qbs l ++ [34])
theorem qbs_snoc (s : ByteArray) (k : Nat) (h : k < s.size) : qbs (s.data.toList.take (k + 1)) = qbs (s.data.toList.take k) ++ qb s[k] := by
  rw [List.take_succ_eq_append_getElem (by simpa using h)]
  unfold qbs
  rw [List.flatMap_append]
  simp [ByteArray.getElem_eq_getElem_data]
theorem hex_at (n : Nat) (h : n < 16) : (⟨#[48, 49, 50, 51, 52, 53, 54, 55, 56, 57, 97, 98, 99, 100, 101, 102]⟩ : ByteArray)[n]'h = hexd n := by
  have h1 : ∀ n : Fin 16, (⟨#[48, 49, 50, 51, 52, 53, 54, 55, 56, 57, 97, 98, 99, 100, 101, 102]⟩ : ByteArray)[n.1]'n.2 = hexd n.1 := by decide
  exact h1 ⟨n, h⟩
theorem cells_one (c : UInt8) : Lib.byteCells [c] = [Value.int .u8 (c.toNat : Int)] := rfl

set_option maxHeartbeats 4000000 in
theorem quote_any (s : ByteArray) (hs : s.size ≤ 1099511627776) (w : World) :
    Calls Tryd.prog 18 #[.string s] w fun e w' => e = .returned (.string ⟨(quoteOf s.data.toList).toArray⟩) ∧ Below w.heap.size w w' := by
  go_enter Tryd.func18, Tryd.ntmps18
  go_wp2_with fail
  go_at_call 15
  refine (writeByte_any w.heap.size w.heap.size (Lib.byteCells []) 34 _ (Lib.fresh_isBuilder 42 5 w) (by decide) (by simp)).mono ?_
  rintro e w1 ⟨rfl, hI, hB⟩
  replace hB : Below w.heap.size w w1 := ((Below.refl _ w).alloc (Nat.le_refl _) _).trans hB
  replace hI : Lib.IsBuilder 42 5 w.heap.size w.heap.size (Lib.byteCells (34 :: qbs (s.data.toList.take 0))) w1 := .inr hI
  go_wp2_with fail
  go_loopw [4] (fun i wr => ∃ k : Nat, k ≤ s.size ∧ i = .int .i64 k ∧ Lib.IsBuilder 42 5 w.heap.size w.heap.size (Lib.byteCells (34 :: qbs (s.data.toList.take k))) wr ∧ Below w.heap.size w wr) (fun i _ => s.size - (intOf i).toNat)
  case atStart => exact ⟨0, Nat.zero_le _, rfl, hI, hB⟩
  case round =>
    clear hI hB
    obtain ⟨k, hk, rfl, hI, hB⟩ := hrel
    have hbs := hB.size
    have hln : (Lib.byteCells (34 :: qbs (s.data.toList.take k))).length ≤ 8796093022208 := by
      rw [Lib.byteCells_length, List.length_cons]
      have h1 := qbs_len (s.data.toList.take k)
      have h2 := List.length_take_le k s.data.toList
      omega
    by_cases hlt : k < s.size
    · have hsn := qbs_snoc s k hlt
      have HS : Lib.byteCells (34 :: qbs (s.data.toList.take (k + 1))) = Lib.byteCells (34 :: qbs (s.data.toList.take k)) ++ Lib.byteCells (qb s[k]) := by
        rw [hsn, ← List.cons_append, Lib.byteCells_append]
      obtain ⟨C, hC⟩ : ∃ C, C = Lib.byteCells (34 :: qbs (s.data.toList.take k)) := ⟨_, rfl⟩
      rw [← hC] at hI hln HS
      have HSH := Lib.hid HS
      clear HS hsn hC
      have b34 := bytes_n s[k] 34 34 rfl
      have b92 := bytes_n s[k] 92 92 rfl
      have b10 := bytes_n s[k] 10 10 rfl
      by_cases hq : s[k] = 34 ∨ s[k] = 92
      · have HQ := Lib.hid (show qb s[k] = [92, s[k]] by unfold qb; rw [if_pos hq])
        have hor : ((s[k].toNat : Int) == 34) = true ∨ (((s[k].toNat : Int) == 34) = false ∧ ((s[k].toNat : Int) == 92) = true) := by
          by_cases h : s[k] = 34
          · left; rw [b34]; exact decide_eq_true h
          · right; refine ⟨?_, ?_⟩
            · rw [b34]; exact decide_eq_false h
            · rw [b92]; exact decide_eq_true (hq.resolve_left h)
        clear hq b34 b92 b10
        rcases hor with h1 | ⟨h1, h2⟩
        all_goals
          go_wp2_with fail
          go_at_call 15
          refine (writeByte_any _ _ _ 92 _ hI (by omega) hbs).mono ?_
          rintro e w1 ⟨rfl, hI1, hB1⟩
          replace hB := hB.trans hB1
          go_wp2_with fail
          go_at_call 15
          refine (writeByte_any _ _ _ s[k] _ (.inr hI1) (by simp; omega) hB.size).mono ?_
          rintro e w2 ⟨rfl, hI2, hB2⟩
          replace hB := hB.trans hB2
          have hI3 : Lib.IsBuilder 42 5 w.heap.size w.heap.size (Lib.byteCells (34 :: qbs (s.data.toList.take (k + 1)))) w2 := by
            rw [HSH.out, HQ.out, show Lib.byteCells [92, s[k]] = [Value.int .u8 ((92 : UInt8).toNat : Int)] ++ [Value.int .u8 (s[k].toNat : Int)] from rfl, ← List.append_assoc]
            exact .inr hI2
          go_wp2_with fail
          go_roundw
          case rel => exact ⟨k + 1, by omega, by go_num, hI3, hB⟩
          case measure => simp [intOf]; omega
      have g34 : ((s[k].toNat : Int) == 34) = false := by rw [b34]; exact decide_eq_false fun h => hq (.inl h)
      have g92 : ((s[k].toNat : Int) == 92) = false := by rw [b92]; exact decide_eq_false fun h => hq (.inr h)
      by_cases h10 : s[k] = 10
      · have HQ := Lib.hid (show qb s[k] = [92, 110] by unfold qb; rw [if_neg hq, if_pos h10])
        rw [decide_eq_true h10] at b10
        clear hq b34 b92 h10
        go_wp2_with fail
        go_at_call 16
        refine (writeString_any _ _ _ ⟨#[92, 110]⟩ _ hI (by have : (⟨#[92, 110]⟩ : ByteArray).size = 2 := rfl; omega) hbs).mono ?_
        rintro e w1 ⟨rfl, hI1, hB1⟩
        replace hB := hB.trans hB1
        have hI3 : Lib.IsBuilder 42 5 w.heap.size w.heap.size (Lib.byteCells (34 :: qbs (s.data.toList.take (k + 1)))) w1 := by
          rw [HSH.out, HQ.out]
          exact .inr hI1
        go_wp2_with fail
        go_roundw
        case rel => exact ⟨k + 1, by omega, by go_num, hI3, hB⟩
        case measure => simp [intOf]; omega
      rw [decide_eq_false h10] at b10
      by_cases hp : 32 ≤ s[k].toNat ∧ s[k].toNat ≤ 126
      · have HQ := Lib.hid (show qb s[k] = [s[k]] by unfold qb; rw [if_neg hq, if_neg h10, if_pos hp])
        have p1 : (32 : Int) ≤ (s[k].toNat : Int) := by omega
        have p2 : (s[k].toNat : Int) ≤ 126 := by omega
        clear hq b34 b92 h10 hp
        go_wp2_with fail
        go_at_call 15
        refine (writeByte_any _ _ _ s[k] _ hI (by omega) hbs).mono ?_
        rintro e w1 ⟨rfl, hI1, hB1⟩
        replace hB := hB.trans hB1
        have hI3 : Lib.IsBuilder 42 5 w.heap.size w.heap.size (Lib.byteCells (34 :: qbs (s.data.toList.take (k + 1)))) w1 := by
          rw [HSH.out, HQ.out]
          exact .inr hI1
        go_wp2_with fail
        go_roundw
        case rel => exact ⟨k + 1, by omega, by go_num, hI3, hB⟩
        case measure => simp [intOf]; omega
      · have HQ := Lib.hid (show qb s[k] = [92, 120, hexd (s[k].toNat / 16), hexd (s[k].toNat % 16)] by unfold qb; rw [if_neg hq, if_neg h10, if_neg hp])
        have hlt' := s[k].toNat_lt
        have hp2 : ¬ (32 : Int) ≤ (s[k].toNat : Int) ∨ ((32 : Int) ≤ (s[k].toNat : Int) ∧ ¬ (s[k].toNat : Int) ≤ 126) := by omega
        clear hq b34 b92 h10 hp
        rcases hp2 with p1 | ⟨p1, p2⟩
        all_goals
          go_wp2_with fail
          go_at_call 16
          refine (writeString_any _ _ _ ⟨#[92, 120]⟩ _ hI (by have : (⟨#[92, 120]⟩ : ByteArray).size = 2 := rfl; omega) hbs).mono ?_
          rintro e w1 ⟨rfl, hI1, hB1⟩
          replace hB := hB.trans hB1
          go_wp2_with fail
          go_at_call 15
          rw [hex_at _ (by omega)]
          refine (writeByte_any _ _ _ (hexd (s[k].toNat / 16)) _ (.inr hI1) (by rw [List.length_append, Lib.strCells_length]; have : (⟨#[92, 120]⟩ : ByteArray).size = 2 := rfl; omega) hB.size).mono ?_
          rintro e w2 ⟨rfl, hI2, hB2⟩
          replace hB := hB.trans hB2
          go_wp2_with fail
          go_at_call 15
          rw [hex_at _ (by omega)]
          refine (writeByte_any _ _ _ (hexd (s[k].toNat % 16)) _ (.inr hI2) (by rw [List.length_append, List.length_append, Lib.strCells_length]; have : (⟨#[92, 120]⟩ : ByteArray).size = 2 := rfl; simp; omega) hB.size).mono ?_
          rintro e w3 ⟨rfl, hI3', hB3⟩
          replace hB := hB.trans hB3
          have hI3 : Lib.IsBuilder 42 5 w.heap.size w.heap.size (Lib.byteCells (34 :: qbs (s.data.toList.take (k + 1)))) w3 := by
            rw [HSH.out, HQ.out, show Lib.byteCells [92, 120, hexd (s[k].toNat / 16), hexd (s[k].toNat % 16)] = Lib.strCells ⟨#[92, 120]⟩ ++ ([Value.int .u8 ((hexd (s[k].toNat / 16)).toNat : Int)] ++ [Value.int .u8 ((hexd (s[k].toNat % 16)).toNat : Int)]) from rfl, ← List.append_assoc, ← List.append_assoc]
            exact .inr hI3'
          go_wp2_with fail
          go_roundw
          case rel => exact ⟨k + 1, by omega, by go_num, hI3, hB⟩
          case measure => simp [intOf]; omega
    · have hk' : k = s.size := by omega
      have hI3 : Lib.IsBuilder 42 5 w.heap.size w.heap.size (Lib.byteCells (34 :: qbs s.data.toList)) wr := by
        rw [show s.data.toList = s.data.toList.take k by rw [List.take_of_length_le (by simp; omega)]]
        exact hI
      clear hI
      have HL := Lib.hid (show (Lib.byteCells (34 :: qbs s.data.toList)).length ≤ 8796093022208 by
        rw [Lib.byteCells_length, List.length_cons]
        have h1 := qbs_len s.data.toList
        simp at h1; omega)
      have HQ := Lib.hid (show Lib.byteCells (quoteOf s.data.toList) = Lib.byteCells (34 :: qbs s.data.toList) ++ [Value.int .u8 34] by
        unfold quoteOf
        rw [← List.cons_append, Lib.byteCells_append]; rfl)
      clear hk' hln
      go_wp2_with fail
      go_at_call 15
      refine (writeByte_any _ _ _ 34 _ hI3 (by have := HL.out; omega) hbs).mono ?_
      rintro e w1 ⟨rfl, hI1, hB1⟩
      replace hB := hB.trans hB1
      have hI4 : Lib.IsBuilder 42 5 w.heap.size w.heap.size (Lib.byteCells (quoteOf s.data.toList)) w1 := by
        rw [HQ.out]
        exact .inr hI1
      go_wp2_with fail
      go_at_call 20
      refine (Tryd.Builder_String_any _ _ _ _ hI4 hB.size).mono ?_
      rintro e w2 ⟨rfl, hB2⟩
      go_wp2_with fail
      go_ret
      exact ⟨rfl, hB.trans hB2⟩
end Go.Proofs.YtoffjpgobhcipaaDoor

/-
  Layer 6: contract of the document's Quote.
-/
namespace Go.Proofs.YtoffjpgobhcipaaDoor
open Go.ChangeShapes Go.WideShapes Go.ChangeAt Go.RowKit

theorem row_new (w : World) (xs : List Value) (t : TypeId) : ∀ j u, xs[j]? = some u → (w.alloc (.cells xs.toArray t)).cell? ((⟨w.heap.size, 0, none⟩ : Addr).add j) = some u := by
  intro j u hj
  have ha : (⟨w.heap.size, 0, none⟩ : Addr).add j = ⟨w.heap.size, j, none⟩ := by unfold Addr.add; split <;> simp_all
  rw [ha]
  unfold World.cell?
  have : (w.alloc (.cells xs.toArray t)).heap[w.heap.size]? = some (.cells xs.toArray t (0, 0)) := by show (w.heap.push _)[w.heap.size]? = _; simp
  simp only [this]
  simpa using hj
/-- a row of bytes of a call's own -/
def Own (w : World) (B : Nat) (v : Value) (T : List UInt8) : Prop := w.ownsRow B 5 1 v T.length (bvals T)
theorem Own.grew {w wr w1 : World} {B : Nat} {v v' : Value} {T L : List UInt8} {o : Obj} (h : Own wr B v T) (hB : Below B w wr) (hl : B ≤ wr.heap.size) (ho : w1.ownsRow B 5 1 v' (T.length + L.length) (bvals T ++ bvals L)) (hg : (wr.alloc o).grownBy w1 v.ownBlock) :
    Own w1 B v' (T ++ L) ∧ Below B w w1 := by
  refine ⟨?_, ?_⟩
  · unfold Own; rw [List.length_append, bvals_app]; exact ho
  · exact (hB.alloc hl o).grown hg (by simp; omega) (fun q hq => (World.ownsRow.lt h q hq).1)
theorem Own.own {w : World} {B : Nat} {v : Value} {T : List UInt8} (h : Own w B v T) : w.ownsRow B 5 1 v T.length (bvals T) := h
theorem Own.alloc {w : World} {B : Nat} {v : Value} {T : List UInt8} (h : Own w B v T) (o : Obj) : (w.alloc o).ownsRow B 5 1 v T.length (bvals T) := World.ownsRow.alloc h o
end Go.Proofs.YtoffjpgobhcipaaDoor

/-
  Layer 6: the document's escape, where the byte behind the backslash is none of the eight names.
-/
namespace Go.Proofs.YtoffjpgobhcipaaDoor
open Go.ChangeShapes Go.WideShapes Go.ChangeAt Go.RowKit

theorem setRow_at {w : World} {g : Nat} {cs new : Array Value} {t : TypeId} {fr : Nat × Nat} (h : w.heap[g]? = some (.cells cs t fr)) : (w.setRow g new).heap[g]? = some (.cells new t fr) := by
  have hlt := (Array.getElem?_eq_some_iff.1 h).1
  show (w.heap.modify g _)[g]? = _
  rw [Array.getElem?_modify, if_pos rfl, h]; rfl
/-- is a byte none of the eight names? -/
def NoName (c : UInt8) : Prop := ∀ n (h : n < 8), (⟨#[97, 98, 102, 110, 114, 116, 118, 92]⟩ : ByteArray)[n]'h ≠ c
theorem noname_eq {c : UInt8} (hN : NoName c) (n : Nat) (h : n < 8) : ((((⟨#[97, 98, 102, 110, 114, 116, 118, 92]⟩ : ByteArray)[n]'h).toNat : Int) == (c.toNat : Int)) = false := by
  rw [bytes_eq]; exact decide_eq_false (hN n h)
theorem row_alloc {w : World} {g : Nat} {o o' : Obj} (h : w.heap[g]? = some o) : (w.alloc o').heap[g]? = some o := by
  have hlt := (Array.getElem?_eq_some_iff.1 h).1
  show (w.heap.push o')[g]? = _
  rw [Array.getElem?_push, if_neg (by omega)]; exact h
theorem row_below {w w' : World} {B g : Nat} {o : Obj} (h : w.heap[g]? = some o) (hB : Below B w w') (hg : g < B) : w'.heap[g]? = some o := by
  rw [hB.block g hg]; exact h
end Go.Proofs.YtoffjpgobhcipaaDoor
