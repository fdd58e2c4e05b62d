/-
  Layer 11: contract of the document's Tree.
-/
import Derived.Test.YtoffjpgobhcipaaGreatDoorIp
import Derived.Test.YtoffjpgobhcipaaGreatDoorHa
import Derived.Test.YtoffjpgobhcipaaGreatDoorQe
import Derived.Test.YtoffjpgobhcipaaGreatDoorIs
namespace Go.Proofs.YtoffjpgobhcipaaGreatDoor.Trm
open Go.ChangeShapes Go.WideShapes Go.ChangeAt Go.RowKit

noncomputable def treeTx (p : Pt) (s : List UInt8) : List UInt8 := partTx p ++ (s ++ [41])
theorem cat_eq (a b : List UInt8) : ({ data := a.toArray } : ByteArray) ++ { data := b.toArray } = ⟨(a ++ b).toArray⟩ := by apply ByteArray.ext; simp
theorem row_snoc {l : List Pt} {i n e : Nat} {s : List UInt8} (h : RowTx l i n s e) {K : Nat} (hn : n = K + 1) : ∃ p sa ea sb, l[i]? = some p ∧ 0 ≤ p.kids ∧ RowTx l (i + 1) p.kids.toNat sa ea ∧ RowTx l ea K sb e ∧ s = 32 :: (treeTx p sa ++ sb) := by
  cases h with
  | zero => omega
  | succ hp h0 g1 g2 =>
    rename_i p sa ea sb
    injection hn with hn
    subst hn
    exact ⟨p, sa, ea, sb, hp, h0, g1, g2, by simp [treeTx]⟩
theorem row_le {l : List Pt} {i n e : Nat} {s : List UInt8} (h : RowTx l i n s e) : i + n ≤ e := (goes_le (row_goes h)).1
def TreeOk (l : List Pt) (a : Option Addr) (n cap : Nat) (f : Nat) : Prop :=
  ∀ (i e : Nat) (p : Pt) (s : List UInt8), e ≤ i + f → l[i]? = some p → 0 ≤ p.kids → RowTx l (i + 1) p.kids.toNat s e → (treeTx p s).length ≤ 1099511627776 → ∀ w : World, Parts w a n l →
    Calls Tryz.prog 44 #[.slice a n cap, .int .i64 i] w fun ed w' => ed = .returned (.tuple #[.string ⟨(treeTx p s).toArray⟩, .int .i64 e]) ∧ Below w.heap.size w w'
set_option maxRecDepth 100000 in
set_option maxHeartbeats 8000000 in
theorem rtree_step (l : List Pt) (a : Option Addr) (n cap f : Nat) (hn : n ≤ 2000) (hK : KindsFit l) (hF : KidsFit l) (hW : ∀ x ∈ l, x.word.size ≤ 1048576) (IH : TreeOk l a n cap f) : TreeOk l a n cap (f + 1) := by
  intro i e x s hf hx h0 hrow hlen w hl
  have hi : i < n := by
    rw [← hl.1]
    exact (List.getElem?_eq_some_iff.1 hx).1
  obtain ⟨g, off, rfl, c0, c1, c2⟩ := hl.2 i _ hx
  have hmem := List.mem_of_getElem? hx
  have hwf := hW _ hmem
  have hkf := hK _ hmem
  have hff := hF _ hmem
  have hgl : g < w.heap.size := cell_lt c1
  have HL := Lib.hid hl
  have HR := Lib.hid hrow
  have HLE := Lib.hid hlen
  have HX := Lib.hid hx
  obtain ⟨D, hD⟩ : ∃ D : ByteArray, D = ⟨(digs x.kind).toArray⟩ := ⟨_, rfl⟩
  obtain ⟨Q, hQ⟩ : ∃ Q : ByteArray, Q = ⟨(quoteOf x.word.data.toList).toArray⟩ := ⟨_, rfl⟩
  have hdg := fun w => digits_any x.kind hkf w
  have hqa := fun w => rquote_any x.word (by omega) w
  rw [← hD] at hdg
  rw [← hQ] at hqa
  have hDs : D.size ≤ 3 := by rw [hD]; exact digs_len _
  have hQs : Q.size ≤ 4194306 := by
    have h1 := quoteOf_len x.word.data.toList
    have h2 : x.word.data.toList.length = x.word.size := by simp
    have h3 : Q.size = (quoteOf x.word.data.toList).length := by rw [hQ]; rfl
    omega
  have HD := Lib.hid hD
  have HQ := Lib.hid hQ
  have j0 : (0 : Int) ≤ i := by omega
  have j1 : (i : Int) < n := by omega
  have m1 : ¬ 9223372036854775807 < 1 + D.size := by omega
  clear hl hrow hlen hx hmem hD hQ
  by_cases hw0 : x.word.size = 0
  · have e0 : x.word.toList = [] := by rw [ByteArray.toList_eq]; exact List.eq_nil_of_length_eq_zero (by simpa using hw0)
    have e1 : x.word.toList.isEmpty = true := by rw [e0]; rfl
    go_enter Tryz.func44, Tryz.ntmps44
    go_wp2_with (go_at_call 61; refine (hdg _).mono ?_; rintro ed w1 ⟨rfl, hB1⟩; have d0 := ((bcell hB1).1 _ _ hgl).trans c0; have d1 := ((bcell hB1).1 _ _ hgl).trans c1; have d2 := ((bcell hB1).1 _ _ hgl).trans c2)
    go_loopw [6, 7, 8, 9, 10] (fun t6 t7 t8 _ _ wr => ∃ (k e1 : Nat) (S : ByteArray) (s1 s2 : List UInt8), (k : Int) ≤ x.kids ∧ t6 = .string S ∧ t7 = .int .i64 e1 ∧ t8 = .int .i64 k ∧ Hid (S = ⟨(partTx x ++ s1).toArray⟩ ∧ s = s1 ++ s2 ∧ RowTx l e1 (x.kids.toNat - k) s2 e ∧ i + 1 + k ≤ e1) ∧ Hid (Below w.heap.size w wr)) (fun _ _ t8 _ _ _ => x.kids.toNat - (intOf t8).toNat)
    case atStart => exact ⟨0, i + 1, { data := #[40] } ++ D, [], s, h0, rfl, by go_num, rfl, Lib.hid ⟨by rw [HD.out]; unfold partTx wordTx; rw [if_pos hw0]; apply ByteArray.ext; simp, rfl, by rw [Nat.sub_zero]; exact HR.out, by omega⟩, Lib.hid hB1⟩
    case round =>
      obtain ⟨k, q, S, s1, s2, hk, rfl, rfl, rfl, HI, HB⟩ := hrel
      have r1 := (HB.out.cell (p := ⟨g, _, none⟩) hgl).trans c1
      have hSl : S.size = (partTx x ++ s1).length := by rw [HI.out.1]; rfl
      have hSm : (partTx x ++ s1).length ≤ 1099511627776 := by
        have h1 := HLE.out
        rw [HI.out.2.1] at h1
        unfold treeTx at h1
        simp only [List.length_append] at h1 ⊢
        omega
      have hSs : S.size ≤ 1099511627776 := by omega
      by_cases hlt : (k : Int) < x.kids
      · have dd : decide ((k : Int) < x.kids) = true := decide_eq_true hlt
        obtain ⟨p, sa, ea, sb, hp, hp0, g1, g2, hs2⟩ := row_snoc HI.out.2.2.1 (K := x.kids.toNat - k - 1) (by omega)
        have hle := row_le g2
        have hq := HI.out.2.2.2
        have hTl : (treeTx p sa).length ≤ 1099511627776 := by
          have h1 := HLE.out
          rw [HI.out.2.1, hs2] at h1
          unfold treeTx at h1 ⊢
          simp only [List.length_append, List.length_cons] at h1 ⊢
          omega
        obtain ⟨T, hT⟩ : ∃ T : ByteArray, T = ⟨(treeTx p sa).toArray⟩ := ⟨_, rfl⟩
        have hTs : T.size ≤ 1099511627776 := by
          have : T.size = (treeTx p sa).length := by rw [hT]; rfl
          omega
        have hc := IH q ea p sa (by omega) hp hp0 g1 hTl
        rw [← hT] at hc
        have hPw := fun w' (h : Below w.heap.size w w') => parts_below HL.out h
        have HN : Hid (S ++ ({ data := #[32] } ++ T) = ⟨(partTx x ++ (s1 ++ 32 :: treeTx p sa)).toArray⟩ ∧ s = (s1 ++ 32 :: treeTx p sa) ++ sb ∧ RowTx l ea (x.kids.toNat - (k + 1)) sb e ∧ i + 1 + (k + 1) ≤ ea) := Lib.hid (by
          refine ⟨?_, ?_, ?_, ?_⟩
          · rw [HI.out.1, hT]; apply ByteArray.ext; simp
          · rw [HI.out.2.1, hs2]; simp
          · rw [show x.kids.toNat - (k + 1) = x.kids.toNat - k - 1 by omega]; exact g2
          · have := row_le g1; omega)
        have hks : ((k + 1 : Nat) : Int) ≤ x.kids := by omega
        have m2 : ¬ 9223372036854775807 < 1 + T.size := by omega
        have m3 : ¬ 9223372036854775807 < S.size + (1 + T.size) := by omega
        have k2 := hff.2
        clear hp hp0 g1 g2 hs2 hle hq hTl hT hSl hSm HI
        go_wp2_with (go_at_call 44; refine (hc _ (hPw _ HB.out)).mono ?_; rintro ed w2 ⟨rfl, hB2⟩)
        go_roundw
        case rel => exact ⟨k + 1, ea, _, _, _, hks, rfl, rfl, by go_num, HN, Lib.hid (HB.out.trans (hB2.mono HB.out.size))⟩
        case measure => simp [intOf]; omega
      · have dd : decide ((k : Int) < x.kids) = false := decide_eq_false hlt
        have hz : x.kids.toNat - k = 0 := by omega
        have hend := HI.out.2.2.1
        rw [hz] at hend
        have HF : Hid (S ++ { data := #[41] } = ⟨(treeTx x s).toArray⟩ ∧ q = e) := Lib.hid (by
          cases hend
          refine ⟨?_, rfl⟩
          rw [HI.out.1, HI.out.2.1]; unfold treeTx; apply ByteArray.ext; simp)
        have m4 : ¬ 9223372036854775807 < S.size + 1 := by omega
        clear hz hend hSl hSm
        go_wp2
        go_ret2
        exact ⟨by rw [← HF.out.1, HF.out.2]; rfl, HB.out⟩
  · have hs0 : 0 < x.word.size := by omega
    have e1 : x.word.toList.isEmpty = false := by
      rw [ByteArray.toList_eq]
      cases h : x.word.data.toList with
      | nil =>
        have h2 : x.word.data.toList.length = x.word.size := by simp
        rw [h] at h2; simp at h2; omega
      | cons c r => rfl
    have m5 : ¬ 9223372036854775807 < 1 + Q.size := by omega
    have m6 : ¬ 9223372036854775807 < 1 + D.size + (1 + Q.size) := by omega
    go_enter Tryz.func44, Tryz.ntmps44
    go_wp2_with (first
      | (go_at_call 61; refine (hdg _).mono ?_; rintro ed w1 ⟨rfl, hB1⟩; have d0 := ((bcell hB1).1 _ _ hgl).trans c0; have d1 := ((bcell hB1).1 _ _ hgl).trans c1; have d2 := ((bcell hB1).1 _ _ hgl).trans c2)
      | (go_at_call 62; refine (hqa _).mono ?_; rintro ed w2 ⟨rfl, hB2⟩; have hB3 := hB1.trans (hB2.mono hB1.size)))
    go_loopw [6, 7, 8, 9, 10] (fun t6 t7 t8 _ _ wr => ∃ (k e1 : Nat) (S : ByteArray) (s1 s2 : List UInt8), (k : Int) ≤ x.kids ∧ t6 = .string S ∧ t7 = .int .i64 e1 ∧ t8 = .int .i64 k ∧ Hid (S = ⟨(partTx x ++ s1).toArray⟩ ∧ s = s1 ++ s2 ∧ RowTx l e1 (x.kids.toNat - k) s2 e ∧ i + 1 + k ≤ e1) ∧ Hid (Below w.heap.size w wr)) (fun _ _ t8 _ _ _ => x.kids.toNat - (intOf t8).toNat)
    case atStart => exact ⟨0, i + 1, { data := #[40] } ++ D ++ ({ data := #[32] } ++ Q), [], s, h0, rfl, by go_num, rfl, Lib.hid ⟨by rw [HD.out, HQ.out]; unfold partTx wordTx; rw [if_neg hw0]; apply ByteArray.ext; simp, rfl, by rw [Nat.sub_zero]; exact HR.out, by omega⟩, Lib.hid hB3⟩
    case round =>
      obtain ⟨k, q, S, s1, s2, hk, rfl, rfl, rfl, HI, HB⟩ := hrel
      have r1 := (HB.out.cell (p := ⟨g, _, none⟩) hgl).trans c1
      have hSl : S.size = (partTx x ++ s1).length := by rw [HI.out.1]; rfl
      have hSm : (partTx x ++ s1).length ≤ 1099511627776 := by
        have h1 := HLE.out
        rw [HI.out.2.1] at h1
        unfold treeTx at h1
        simp only [List.length_append] at h1 ⊢
        omega
      have hSs : S.size ≤ 1099511627776 := by omega
      by_cases hlt : (k : Int) < x.kids
      · have dd : decide ((k : Int) < x.kids) = true := decide_eq_true hlt
        obtain ⟨p, sa, ea, sb, hp, hp0, g1, g2, hs2⟩ := row_snoc HI.out.2.2.1 (K := x.kids.toNat - k - 1) (by omega)
        have hle := row_le g2
        have hq := HI.out.2.2.2
        have hTl : (treeTx p sa).length ≤ 1099511627776 := by
          have h1 := HLE.out
          rw [HI.out.2.1, hs2] at h1
          unfold treeTx at h1 ⊢
          simp only [List.length_append, List.length_cons] at h1 ⊢
          omega
        obtain ⟨T, hT⟩ : ∃ T : ByteArray, T = ⟨(treeTx p sa).toArray⟩ := ⟨_, rfl⟩
        have hTs : T.size ≤ 1099511627776 := by
          have : T.size = (treeTx p sa).length := by rw [hT]; rfl
          omega
        have hc := IH q ea p sa (by omega) hp hp0 g1 hTl
        rw [← hT] at hc
        have hPw := fun w' (h : Below w.heap.size w w') => parts_below HL.out h
        have HN : Hid (S ++ ({ data := #[32] } ++ T) = ⟨(partTx x ++ (s1 ++ 32 :: treeTx p sa)).toArray⟩ ∧ s = (s1 ++ 32 :: treeTx p sa) ++ sb ∧ RowTx l ea (x.kids.toNat - (k + 1)) sb e ∧ i + 1 + (k + 1) ≤ ea) := Lib.hid (by
          refine ⟨?_, ?_, ?_, ?_⟩
          · rw [HI.out.1, hT]; apply ByteArray.ext; simp
          · rw [HI.out.2.1, hs2]; simp
          · rw [show x.kids.toNat - (k + 1) = x.kids.toNat - k - 1 by omega]; exact g2
          · have := row_le g1; omega)
        have hks : ((k + 1 : Nat) : Int) ≤ x.kids := by omega
        have m2 : ¬ 9223372036854775807 < 1 + T.size := by omega
        have m3 : ¬ 9223372036854775807 < S.size + (1 + T.size) := by omega
        have k2 := hff.2
        clear hp hp0 g1 g2 hs2 hle hq hTl hT hSl hSm HI
        go_wp2_with (go_at_call 44; refine (hc _ (hPw _ HB.out)).mono ?_; rintro ed w2 ⟨rfl, hB2⟩)
        go_roundw
        case rel => exact ⟨k + 1, ea, _, _, _, hks, rfl, rfl, by go_num, HN, Lib.hid (HB.out.trans (hB2.mono HB.out.size))⟩
        case measure => simp [intOf]; omega
      · have dd : decide ((k : Int) < x.kids) = false := decide_eq_false hlt
        have hz : x.kids.toNat - k = 0 := by omega
        have hend := HI.out.2.2.1
        rw [hz] at hend
        have HF : Hid (S ++ { data := #[41] } = ⟨(treeTx x s).toArray⟩ ∧ q = e) := Lib.hid (by
          cases hend
          refine ⟨?_, rfl⟩
          rw [HI.out.1, HI.out.2.1]; unfold treeTx; apply ByteArray.ext; simp)
        have m4 : ¬ 9223372036854775807 < S.size + 1 := by omega
        clear hz hend hSl hSm
        go_wp2
        go_ret2
        exact ⟨by rw [← HF.out.1, HF.out.2]; rfl, HB.out⟩
theorem rtree_any (l : List Pt) (a : Option Addr) (n cap : Nat) (hn : n ≤ 2000) (hK : KindsFit l) (hF : KidsFit l) (hW : ∀ x ∈ l, x.word.size ≤ 1048576) : ∀ f, TreeOk l a n cap f
  | 0 => by
    intro i e x s hf hx h0 hrow hlen w hl
    have := row_le hrow
    omega
  | f + 1 => rtree_step l a n cap f hn hK hF hW (rtree_any l a n cap hn hK hF hW f)
end Go.Proofs.YtoffjpgobhcipaaGreatDoor.Trm
