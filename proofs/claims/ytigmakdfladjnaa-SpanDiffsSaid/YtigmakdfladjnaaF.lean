/-
  Layer 3: contract of span.edited.
-/
import Derived.Test.YtigmakdfladjnaaE
import Derived.Laws.BytesString
import Derived.Laws.Cells
namespace Go.Proofs.Ytigmakdfladjnaa
open Go.ChangeShapes Go.WideShapes Go.ChangeAt Go.RowKit

theorem info5 : (Try.prog.info? 5).map (fun i => (i.zero, i.size, i.bytes)) = some (some (.int .u8 0), 1, 1) := by kernel_rfl
theorem extract_take (s : ByteArray) (a b : Nat) : (s.extract a b).data.toList = (s.data.toList.drop a).take (b - a) := by
  simp [ByteArray.data_extract, List.extract_eq_take_drop]
theorem put_start (w : World) (n : Nat) :
    Put (((w.alloc (.cells (madeCells #[.int .u8 0] n) 5)).alloc (.cells #[.slice (some ⟨w.heap.size, 0, none⟩) n n] 47)).alloc (.cells #[.int .i64 0] 3)) w.heap.size (w.heap.size + 1 + 1) (w.heap.size + 1) n [] := by
  refine ⟨?_, ?_, (madeCells #[.int .u8 0] n).toList, ?_, ?_⟩
  · show ((((w.heap.push _).push _).push _)[w.heap.size + 1 + 1]?) = _
    simp [Array.getElem_push]
  · show ((((w.heap.push _).push _).push _)[w.heap.size + 1]?) = _
    simp [Array.getElem_push]
  · show ((((w.heap.push _).push _).push _)[w.heap.size]?) = _
    simp [vals, Array.getElem?_push]
    omega
  · simp [vals, size_madeCells]
theorem foldl_bytes (ns : List Int) : ∀ s : ByteArray, (ns.foldl (fun r n => r.push (UInt8.ofNat n.toNat)) s).data.toList = s.data.toList ++ ns.map fun n => UInt8.ofNat n.toNat := by
  induction ns with
  | nil => intro s; simp
  | cons n t ih => intro s; rw [List.foldl_cons, ih]; simp
theorem conv_put {w : World} {g ba bo N : Nat} {T : List UInt8} (hP : Put w g ba bo N T) (hT : T.length = N) :
    (convert 47 9 (.slice (some ⟨g, 0, none⟩) N N)).run Try.prog w = .ok (.string ⟨T.toArray⟩) w := by
  obtain ⟨_, _, rest, hG, hlen⟩ := hP
  have hr : rest = [] := by
    rw [List.length_append, vals_length] at hlen
    exact List.length_eq_zero_iff.1 (by omega)
  subst hr
  rw [List.append_nil] at hG
  have hv : vals T = (T.map fun x => (x.toNat : Int)).map (Value.int .u8) := by unfold vals; rw [List.map_map]; rfl
  rw [run_convert_bytes_string _ 47 9 5 _ _ _ Try.underlying47 Try.underlying5 Try.underlying9, run_bytesToString _ _ _ _ (T.map fun x => (x.toNat : Int))]
  · congr 2
    have h1 := foldl_bytes (T.map fun x => (x.toNat : Int)) ByteArray.empty
    have h2 : (ByteArray.empty.data.toList ++ (T.map fun x => (x.toNat : Int)).map fun n => UInt8.ofNat n.toNat) = T := by
      rw [List.map_map]
      have : ((fun n : Int => UInt8.ofNat n.toNat) ∘ fun x : UInt8 => (x.toNat : Int)) = id := by funext x; simp
      rw [this]; simp
    rw [h2] at h1
    apply ByteArray.ext
    apply Array.ext'
    rw [h1]
  · have := run_loadCells_list (P := Try.prog) (w := w) ⟨g, 0, none⟩ (vals T) (fun j v hj => by
      have ha : (⟨g, 0, none⟩ : Addr).add j = ⟨g, j, none⟩ := by unfold Addr.add; split <;> simp_all
      rw [ha]
      unfold World.cell?
      simp only [hG]
      simpa using hj)
    rw [vals_length, hT, hv] at this
    exact this
theorem slice_end (s : ByteArray) (a : Nat) (h1 : a ≤ s.size) (w : World) :
    (Instr.slice 9 (.string s) (some (.int .i64 (a : Int))) none none).run Try.prog w = .ok (.string (s.extract a s.size)) w := by
  rw [run_slice_string_from_if _ 9 s .i64 _ Try.underlying9, if_pos (by omega)]
  simp
theorem slice_str (s : ByteArray) (a b : Nat) (h1 : a ≤ b) (h2 : b ≤ s.size) (w : World) :
    (Instr.slice 9 (.string s) (some (.int .i64 (a : Int))) (some (.int .i64 (b : Int))) none).run Try.prog w = .ok (.string (s.extract a b)) w := by
  rw [run_slice_string _ 9 s .i64 .i64 _ _ Try.underlying9 (by omega) (by omega) (by omega)]
  simp
set_option maxRecDepth 100000 in
set_option maxHeartbeats 4000000 in
theorem edited_any (s : ByteArray) (w : World) (a : Option Addr) (n cap : Nat) (es : List Ed) (he : Edits w a n es) (hn : n ≤ maxLen) (N : Nat) (hN : N ≤ 65536) (hT : (textOf s.data.toList 0 es).length = N) (hst : stands s.size 0 es = true) (_hs : s.size ≤ 65536) :
    Calls Try.prog 28 #[.string s, .slice a n cap, .int .i64 N] w fun e w' => e = .returned (.string ⟨(textOf s.data.toList 0 es).toArray⟩) ∧ Below w.heap.size w w' := by
  have HL := Lib.hid he.1
  unfold maxLen at hn
  obtain ⟨i0, hi, hz0, hz1, hz2⟩ := info_parts info5
  have hmk : ∀ u : World, (Instr.makeSlice 47 (.int .i64 (N : Int)) (.int .i64 (N : Int))).run Try.prog u =
      .ok (.slice (some ⟨u.heap.size, 0, none⟩) N N) (u.alloc (.cells (madeCells #[.int .u8 0] N) 5)) := fun u => by
    have h := run_make (P := Try.prog) u 47 5 i0 (.int .u8 0) Try.underlying47 hi hz0 .i64 .i64 (N : Int) (N : Int) (by omega) (Int.le_refl _) (by rw [hz2]; omega) (by omega)
    simpa [hz1, Value.cells] using h
  have HP := Lib.hid (put_start w N)
  have HH := Lib.hid (And.intro hT hst)
  clear hT hst hi hz0 hz1 hz2
  go_enter Try.func28, Try.ntmps28
  go_wp2
  go_loopw [10, 18] (fun r i wr => ∃ (k R : Nat) (P : List UInt8), k ≤ n ∧ i = .int .i64 k ∧ r = .int .i64 R ∧ R ≤ s.size ∧ Put wr w.heap.size (w.heap.size + 1 + 1) (w.heap.size + 1) N P ∧ Below w.heap.size w wr ∧ Hid (P ++ textOf s.data.toList R (es.drop k) = textOf s.data.toList 0 es) ∧ Hid (stands s.size R (es.drop k) = true)) (fun _ i _ => n - (intOf i).toNat)
  case atStart => exact ⟨0, 0, [], Nat.zero_le _, rfl, rfl, Nat.zero_le _, HP.out, (((Below.refl _ w).alloc (Nat.le_refl _) _).alloc (by simp) _).alloc (by simp; omega) _, Lib.hid (by simp), Lib.hid (by simpa using HH.out.2)⟩
  case round =>
    obtain ⟨k, R, P, hk, rfl, rfl, hR, hPut, hB, HT, HS⟩ := hrel
    by_cases hlt : k < n
    · obtain ⟨⟨lo, hi, tx⟩, hxk⟩ : ∃ x, es[k]? = some x := ⟨es[k]'(by have := HL.out; omega), List.getElem?_eq_getElem (by have := HL.out; omega)⟩
      have hsa := stands_at s.size R es k _ hxk
      rw [HS.out] at hsa
      have hsb := hsa.symm
      rw [Bool.and_eq_true, decide_eq_true_eq] at hsb
      dsimp only at hsb
      obtain ⟨⟨h1, h2, h3⟩, h4⟩ := hsb
      obtain ⟨L, rfl⟩ : ∃ L : Nat, lo = (L : Int) := ⟨lo.toNat, by omega⟩
      obtain ⟨U, rfl⟩ : ∃ U : Nat, hi = (U : Int) := ⟨hi.toNat, by omega⟩
      have her := edits_below he hB
      obtain ⟨g', off, rfl, c0, c1, c2⟩ := her.2 k _ hxk
      dsimp only at c0 c1 c2
      obtain ⟨hk', he'⟩ := List.getElem?_eq_some_iff.mp hxk
      have htx : textOf s.data.toList R (es.drop k) = (s.data.toList.drop R).take (L - R) ++ tx.data.toList ++ textOf s.data.toList U (es.drop (k + 1)) := by
        rw [List.drop_eq_getElem_cons hk', he']; rfl
      have hlen : P.length + ((L - R) + tx.size) ≤ N := by
        have h5 := congrArg List.length HT.out
        rw [htx, HH.out.1] at h5
        have h6 : s.data.toList.length = s.size := rfl
        have h7 : tx.data.toList.length = tx.size := rfl
        simp only [List.length_append, List.length_take, List.length_drop] at h5
        omega
      have hLR : R ≤ L := by omega
      have hLU : L ≤ U := by omega
      have hUs : U ≤ s.size := by omega
      have hes : (s.extract R L).size = L - R := by rw [ByteArray.size_extract]; omega
      have HX := Lib.hid (And.intro htx (And.intro h4 hes))
      have hs := hB.size
      have hsz : w.heap.size + 1 + 1 < wr.heap.size := (Array.getElem?_eq_some_iff.1 hPut.1).1
      have hPa := put_alloc hPut (.cells #[.int .i64 (L : Int), .int .i64 (U : Int), .string tx] 36)
      have hnew : (wr.alloc (.cells #[.int .i64 (L : Int), .int .i64 (U : Int), .string tx] 36)).heap[wr.heap.size]? = some (.cells #[.int .i64 (L : Int), .int .i64 (U : Int), .string tx] 36 (0, 0)) := by
        show (wr.heap.push _)[wr.heap.size]? = _
        simp
      have HNEW := Lib.hid hnew
      clear hnew
      have l1 : P.length + (s.extract R L).size ≤ N := by omega
      have l2 : (P ++ (s.extract R L).data.toList).length + tx.size ≤ N := by
        have h8 : (s.extract R L).data.toList.length = (s.extract R L).size := rfl
        rw [List.length_append, h8]; omega
      have hHL := Lib.hid (And.intro l1 l2)
      clear hsa h1 h2 h3 h4 htx hxk he' hk' her hes l1 l2
      have hsl := slice_str s R L hLR (by omega)
      have tok1 : True := trivial
      go_wp2_with (first
        | (go_at_call 32; have _t := tok1; refine (put_put hPa (s.extract R L) hHL.out.1 hN (by omega) (by omega) (by omega) (B := w.heap.size) (by omega) (Nat.le_refl _)).mono ?_; rintro e w1 ⟨rfl, hP1, hB1, hO1⟩; have n1 : w1.heap[wr.heap.size]? = some (.cells #[.int .i64 (L : Int), .int .i64 (U : Int), .string tx] 36 (0, 0)) := ((hO1 wr.heap.size (by omega) (by omega)).trans HNEW.out); have d2 : w1.cell? ⟨wr.heap.size, 2, none⟩ = some (.string tx) := (by unfold World.cell?; simp only [n1]; rfl); have N1 := Lib.hid n1; have HO1 := Lib.hid hO1; clear n1 hO1 tok1 _t)
        | (go_at_call 32; refine (put_put hP1 tx hHL.out.2 hN (by omega) (by omega) (by omega) (B := w.heap.size) (by omega) (Nat.le_refl _)).mono ?_; rintro e w2 ⟨rfl, hP2, hB2, hO2⟩; have n2 : w2.heap[wr.heap.size]? = some (.cells #[.int .i64 (L : Int), .int .i64 (U : Int), .string tx] 36 (0, 0)) := ((hO2 wr.heap.size (by omega) (by omega)).trans N1.out); have d1 : w2.cell? ⟨wr.heap.size, 1, none⟩ = some (.int .i64 (U : Int)) := (by unfold World.cell?; simp only [n2]; rfl); clear n2 hO2))
      go_roundw
      case rel =>
        refine ⟨k + 1, U, _, by omega, by go_num, rfl, hUs, hP2, ((hB.alloc hs _).trans hB1).trans hB2, Lib.hid ?_, Lib.hid HX.out.2.1⟩
        rw [← HT.out, HX.out.1, extract_take]
        simp
      case measure => simp [intOf]; omega
    · have hkn : k = n := by omega
      have hdr : es.drop k = [] := List.drop_of_length_le (by have := HL.out; omega)
      have hTT : P ++ (s.extract R s.size).data.toList = textOf s.data.toList 0 es := by
        have h1 := HT.out
        rw [hdr] at h1
        rw [← h1, extract_take, List.take_of_length_le (by simp)]
        rfl
      have l1 : P.length + (s.extract R s.size).size ≤ N := by
        have h1 := congrArg List.length hTT
        have h2 : (s.extract R s.size).data.toList.length = (s.extract R s.size).size := rfl
        rw [List.length_append, h2, HH.out.1] at h1
        omega
      have hsl := slice_end s R hR
      have hsz : w.heap.size + 1 + 1 < wr.heap.size := (Array.getElem?_eq_some_iff.1 hPut.1).1
      have HTT := Lib.hid hTT
      have HL1 := Lib.hid l1
      clear hTT l1 hdr hkn
      go_wp2_with (first
        | (go_at_call 32; refine (put_put hPut (s.extract R s.size) HL1.out hN (by omega) (by omega) (by omega) (B := w.heap.size) (by omega) (Nat.le_refl _)).mono ?_; rintro e w1 ⟨rfl, hP1, hB1, hO1⟩; rw [HTT.out] at hP1; have hcv := conv_put hP1 HH.out.1; have co : w1.cell? ⟨w.heap.size + 1, 0, none⟩ = some (.slice (some ⟨w.heap.size, 0, none⟩) N N) := (by unfold World.cell?; simp only [hP1.2.1]; rfl); clear hO1 hP1))
      go_ret
      exact ⟨rfl, hB.trans hB1⟩
end Go.Proofs.Ytigmakdfladjnaa
