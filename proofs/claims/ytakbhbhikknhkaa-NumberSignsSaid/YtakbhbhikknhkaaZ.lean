/-
  Layer 5: a text without one of its bytes.
-/
import Derived.Test.YtakbhbhikknhkaaY
import Derived.Laws.AppendOwn
import Derived.Laws.OwnMore
import Derived.Laws.BytesString
import Derived.Laws.Cells
import Derived.Great.BuildSlice
namespace Go.Proofs.Ytakbhbhikknhkaa
open Go.ChangeShapes Go.WideShapes Go.ChangeAt Go.RowKit

def bvals (l : List UInt8) : List Value := l.map fun c => Value.int .u8 (c.toNat : Int)
def kept (c : UInt8) (l : List UInt8) : List UInt8 := l.filter fun x => decide (x ≠ c)
theorem info5 : (Try.prog.info? 5).map (fun i => (i.zero, i.size, i.bytes)) = some (some (.int .u8 0), 1, 1) := by kernel_rfl
theorem one_new (w : World) (x : Value) (t : TypeId) : ∀ j u, [x][j]? = some u → (w.alloc (.cells #[x] t)).cell? ((⟨w.heap.size, 0, none⟩ : Addr).add j) = some u := by
  intro j u hj
  match j, hj with
  | 0, hj => simp at hj; subst hj; simp [Addr.add]
  | j + 1, hj => simp at hj
theorem foldl_bytes (ns : List Int) : ∀ s : ByteArray, (ns.foldl (fun r n => r.push (UInt8.ofNat n.toNat)) s).data.toList = s.data.toList ++ ns.map fun n => UInt8.ofNat n.toNat := by
  induction ns with
  | nil => intro s; simp
  | cons n t ih => intro s; rw [List.foldl_cons, ih]; simp
theorem conv_own {w : World} {base : Nat} {v : Value} {l : List UInt8} (h : w.ownsRow base 5 1 v l.length (bvals l)) :
    (convert 35 9 v).run Try.prog w = .ok (.string ⟨l.toArray⟩) w := by
  rcases h.2 with ⟨rfl, h0⟩ | ⟨g, cap, cur, rfl, hb, hg, hn, hm, hs, ht⟩
  · have : l = [] := List.eq_nil_of_length_eq_zero h0
    subst this
    rw [run_convert_bytes_string _ 35 9 5 _ _ _ Try.underlying35 Try.underlying5 Try.underlying9]
    rfl
  · have hv : bvals l = (l.map fun x => (x.toNat : Int)).map (Value.int .u8) := by unfold bvals; rw [List.map_map]; rfl
    rw [run_convert_bytes_string _ 35 9 5 _ _ _ Try.underlying35 Try.underlying5 Try.underlying9, run_bytesToString _ _ _ _ (l.map fun x => (x.toNat : Int))]
    · congr 2
      have h1 := foldl_bytes (l.map fun x => (x.toNat : Int)) ByteArray.empty
      have h2 : (ByteArray.empty.data.toList ++ (l.map fun x => (x.toNat : Int)).map fun n => UInt8.ofNat n.toNat) = l := by
        rw [List.map_map]
        have : ((fun n : Int => UInt8.ofNat n.toNat) ∘ fun x : UInt8 => (x.toNat : Int)) = id := by funext x; simp
        rw [this]; simp
      rw [h2] at h1
      apply ByteArray.ext
      apply Array.ext'
      rw [h1]
    · have hl : (bvals l).length = l.length := by simp [bvals]
      have := run_loadCells_list (P := Try.prog) (w := w) ⟨g, 0, none⟩ (bvals l) (fun j x hj => by
        have ha : (⟨g, 0, none⟩ : Addr).add j = ⟨g, j, none⟩ := by unfold Addr.add; split <;> simp_all
        rw [ha]
        unfold World.cell?
        simp only [hg]
        rw [← ht, List.getElem?_take] at hj
        split at hj
        · simpa using hj
        · cases hj)
      rw [hl, hv] at this
      exact this
theorem kept_more (c : UInt8) (s : ByteArray) (i : Nat) (h : i < s.size) : kept c (s.data.toList.take (i + 1)) = kept c (s.data.toList.take i) ++ (if s[i] ≠ c then [s[i]] else []) := by
  have hl : i < s.data.toList.length := by simpa using h
  have e : s.data.toList[i]'hl = s[i] := by simp [ByteArray.getElem_eq_getElem_data]
  rw [List.take_succ_eq_append_getElem hl, e]
  unfold kept
  rw [List.filter_append]
  congr 1
  by_cases hc : s[i] = c
  · simp [hc]
  · simp [hc]
theorem kept_len (c : UInt8) (l : List UInt8) : (kept c l).length ≤ l.length := List.length_filter_le _ _

set_option maxHeartbeats 2000000 in
theorem without_any (s : ByteArray) (hs : s.size ≤ 140737488351232) (c : UInt8) (w : World) :
    Calls Try.prog 14 #[.string s, .int .u8 c.toNat] w fun e w' => e = .returned (.string ⟨(kept c s.data.toList).toArray⟩) ∧ Below w.heap.size w w' := by
  obtain ⟨i0, hi, hz0, hz1, hz2⟩ := info_parts info5
  have hl : s.data.toList.length = s.size := by simp
  have HL := Lib.hid hl
  clear hl
  go_enter Try.func14, Try.ntmps14
  go_wp2
  go_loopw [5, 6] (fun v ii wr => ∃ i : Nat, i ≤ s.size ∧ ii = .int .i64 i ∧ Below w.heap.size w wr ∧ Hid (wr.ownsRow w.heap.size 5 1 v (kept c (s.data.toList.take i)).length (bvals (kept c (s.data.toList.take i))))) (fun _ ii _ => s.size - (intOf ii).toNat)
  case atStart => exact ⟨0, Nat.zero_le _, rfl, Below.refl _ _, Lib.hid (World.ownsRow_nil _ _ _ _)⟩
  case round =>
    obtain ⟨i, hi1, rfl, hB, hO⟩ := hrel
    by_cases hlt : i < s.size
    · have hm := kept_more c s i hlt
      have hk1 := kept_len c (s.data.toList.take i)
      rw [List.length_take, HL.out] at hk1
      obtain ⟨K, hK⟩ : ∃ K, K = kept c (s.data.toList.take i) := ⟨_, rfl⟩
      rw [← hK] at hm hk1
      have hO2 := hO.out
      rw [← hK] at hO2
      by_cases hc : s[i] = c
      · rw [if_neg (by simpa using hc), List.append_nil] at hm
        have b1 : ((s[i].toNat : Int) != (c.toNat : Int)) = false := by rw [bne, bytes_eq]; simpa using hc
        have hO3 := Lib.hid (show wr.ownsRow w.heap.size 5 1 _ (kept c (s.data.toList.take (i + 1))).length (bvals (kept c (s.data.toList.take (i + 1)))) by rw [hm]; exact hO2)
        clear hm hk1 hK hO2 hO hc
        go_wp2
        go_roundw
        case rel => exact ⟨i + 1, by omega, by go_num, hB, hO3⟩
        case measure => simp [intOf]; omega
      · rw [if_pos hc] at hm
        have b1 : ((s[i].toNat : Int) != (c.toNat : Int)) = true := by rw [bne, bytes_eq]; simpa using hc
        have HM := Lib.hid hm
        have hs1 := hB.size
        clear hm hK hO hc
        go_wp2_with (at_builtin; refine wpList_append_own _ rfl _ _ 35 rfl w.heap.size 5 i0 (.int .u8 0) 1 1 Try.underlying35 hi hz0 hz1 hz2 rfl (by decide) _ _ _ rfl (hO2.alloc _) ⟨wr.heap.size, 0, none⟩ 1 1 [.int .u8 (s[i].toNat : Int)] rfl rfl ?c1 ?c2 ?c3 ?c4 ?c5 ?_)
        case c1 => exact one_new _ _ _
        case c2 => intro u hu; simp at hu; subst hu; rfl
        case c3 => unfold maxLen; omega
        case c4 => omega
        case c5 => simp; omega
        · intro v' w1 hown' hgrow _
          have hO3 := Lib.hid (show w1.ownsRow w.heap.size 5 1 v' (kept c (s.data.toList.take (i + 1))).length (bvals (kept c (s.data.toList.take (i + 1)))) by
            rw [HM.out, List.length_append]
            unfold bvals at hown' ⊢
            rw [List.map_append]
            exact hown')
          have hB1 : Below w.heap.size w w1 := (hB.alloc hs1 _).grown hgrow (by simp; omega) (fun q hq => by
            have := (hO2.lt q hq).1; omega)
          clear hgrow hown' hO2
          go_wp2
          go_roundw
          case rel => exact ⟨i + 1, by omega, by go_num, hB1, hO3⟩
          case measure => simp [intOf]; omega
    · have hil : s.data.toList.take i = s.data.toList := List.take_of_length_le (by have := HL.out; omega)
      rw [hil] at hO
      have hcv := conv_own hO.out
      clear hil
      go_wp2
      go_ret
      exact ⟨rfl, hB⟩
end Go.Proofs.Ytakbhbhikknhkaa
