/-
  Layer 3: contracts of span.trimmed and of the document's Trimmed.
-/
import Derived.Test.YtigmakdfladjnaaM
import Derived.Great.BuildSlice
import Derived.Laws.CopyOwn
namespace Go.Proofs.Ytigmakdfladjnaa
open Go.ChangeShapes Go.WideShapes Go.ChangeAt Go.RowKit

/-- an edit in a block of its own -/
def Box (w : World) (b : Nat) (lo hi : Int) (tx : ByteArray) : Prop := w.heap[b]? = some (.cells #[.int .i64 lo, .int .i64 hi, .string tx] 36 (0, 0))
theorem box_cells {w : World} {b : Nat} {lo hi : Int} {tx : ByteArray} (h : Box w b lo hi tx) :
    w.cell? ⟨b, 0, none⟩ = some (.int .i64 lo) ∧ w.cell? ⟨b, 1, none⟩ = some (.int .i64 hi) ∧ w.cell? ⟨b, 2, none⟩ = some (.string tx) ∧
    w.frozen? ⟨b, 0, none⟩ = false ∧ w.frozen? ⟨b, 1, none⟩ = false ∧ w.frozen? ⟨b, 2, none⟩ = false := by
  unfold Box at h
  refine ⟨?_, ?_, ?_, ?_, ?_, ?_⟩ <;> simp [World.cell?, World.frozen?, h]
theorem box_drewN {w : World} {b : Nat} {lo hi : Int} {tx : ByteArray} (h : Box w b lo hi tx) (n : Nat) : Box (w.drewN n) b lo hi tx := h
theorem box_new (w : World) (lo hi : Int) (tx : ByteArray) : Box (w.alloc (.cells #[.int .i64 lo, .int .i64 hi, .string tx] 36)) w.heap.size lo hi tx := by
  show (w.heap.push _)[w.heap.size]? = _
  simp

/-- the world of the call: the edit's box, the answer's box -/
def Two (w wr : World) (lo hi : Int) (tx : ByteArray) : Prop :=
  Box wr w.heap.size lo hi tx ∧ Box wr (w.heap.size + 1) 0 0 ⟨#[]⟩ ∧ Below w.heap.size w wr
theorem two_start (w : World) (lo hi : Int) (tx : ByteArray) : Two w ((w.alloc (.cells #[.int .i64 lo, .int .i64 hi, .string tx] 36)).alloc (.cells #[.int .i64 0, .int .i64 0, .string ⟨#[]⟩] 36)) lo hi tx := by
  refine ⟨?_, ?_, ((Below.refl _ w).alloc (Nat.le_refl _) _).alloc (by simp) _⟩
  · show ((w.heap.push _).push _)[w.heap.size]? = _
    rw [Array.getElem?_push, if_neg (by simp), Array.getElem?_push, if_pos rfl]
  · show ((w.heap.push _).push _)[w.heap.size + 1]? = _
    rw [Array.getElem?_push, if_pos (by simp)]
theorem box_set {w : World} {b i : Nat} {lo hi : Int} {tx : ByteArray} {v : Value} {cs : Array Value} (h : Box w b lo hi tx) (hcs : (#[.int .i64 lo, .int .i64 hi, .string tx] : Array Value).set! i v = cs) : (w.setCell ⟨b, i, none⟩ v).heap[b]? = some (.cells cs 36 (0, 0)) := by
  subst hcs
  unfold Box at h
  simp [World.setCell, Array.getElem?_modify, h]
theorem box_other {w : World} {b c i : Nat} {lo hi : Int} {tx : ByteArray} {v : Value} (h : Box w b lo hi tx) (hne : c ≠ b) : Box (w.setCell ⟨c, i, none⟩ v) b lo hi tx := by
  unfold Box at h ⊢
  simp [World.setCell, Array.getElem?_modify, h, hne]
theorem two_lo {w wr : World} {lo hi : Int} {tx : ByteArray} (h : Two w wr lo hi tx) (z : Int) : Two w (wr.setCell ⟨w.heap.size, 0, none⟩ (.int .i64 z)) z hi tx :=
  ⟨box_set h.1 rfl, box_other h.2.1 (by omega), h.2.2.setCell (Nat.le_refl _) _⟩
theorem two_hi {w wr : World} {lo hi : Int} {tx : ByteArray} (h : Two w wr lo hi tx) (z : Int) : Two w (wr.setCell ⟨w.heap.size, 1, none⟩ (.int .i64 z)) lo z tx :=
  ⟨box_set h.1 rfl, box_other h.2.1 (by omega), h.2.2.setCell (Nat.le_refl _) _⟩
theorem two_tx {w wr : World} {lo hi : Int} {tx : ByteArray} (h : Two w wr lo hi tx) (z : ByteArray) : Two w (wr.setCell ⟨w.heap.size, 2, none⟩ (.string z)) lo hi z :=
  ⟨box_set h.1 rfl, box_other h.2.1 (by omega), h.2.2.setCell (Nat.le_refl _) _⟩
theorem two_drewN {w wr : World} {lo hi : Int} {tx : ByteArray} (h : Two w wr lo hi tx) (n : Nat) : Two w (wr.drewN n) lo hi tx := ⟨h.1, h.2.1, below_drewN h.2.2 n⟩

theorem empty_no (t : ByteArray) (h : 0 < t.size) : t.toList.isEmpty = false := by
  have h1 : t.toList.length = t.size := by rw [ByteArray.toList_eq]; rfl
  cases ht : t.toList with
  | nil => rw [ht] at h1; simp at h1; omega
  | cons a l => rfl
theorem empty_yes (t : ByteArray) (h : t.size = 0) : t.toList.isEmpty = true := by
  have h1 : t.toList.length = t.size := by rw [ByteArray.toList_eq]; rfl
  cases ht : t.toList with
  | nil => rfl
  | cons a l => rw [ht] at h1; simp at h1; omega
theorem info36 : (Try.prog.info? 36).map (·.size) = some 3 := by kernel_rfl
/-- a number in memory -/
def numAt (w : World) (b i : Nat) : Int := match w.cell? ⟨b, i, none⟩ with | some (.int _ z) => z | _ => 0
theorem num_lo {w : World} {b : Nat} {lo hi : Int} {tx : ByteArray} (h : Box w b lo hi tx) : numAt w b 0 = lo := by unfold numAt; rw [(box_cells h).1]
theorem num_hi {w : World} {b : Nat} {lo hi : Int} {tx : ByteArray} (h : Box w b lo hi tx) : numAt w b 1 = hi := by unfold numAt; rw [(box_cells h).2.1]
set_option maxHeartbeats 2000000 in
theorem trimmed_nat (s : ByteArray) (l h : Nat) (tx : ByteArray) (hg : Good s ⟨l, h, tx⟩) (hs : s.size ≤ maxLen) (ht : tx.size ≤ maxLen) (w : World) :
    Calls Try.prog 31 #[.string s, .agg #[.int .i64 l, .int .i64 h, .string tx]] w fun e w' => e = .returned (.agg #[.int .i64 (less s ⟨l, h, tx⟩).lo, .int .i64 (less s ⟨l, h, tx⟩).hi, .string (less s ⟨l, h, tx⟩).tx]) ∧ Below w.heap.size w w' := by
  have hT0 := two_start w l h tx
  unfold maxLen at hs ht
  have hfl := front_le s _ hg
  have hfs := front_same s _ hg
  have hfm := front_max s _ hg
  have hbl := back_le s _ hg
  have hbs := back_same s _ hg
  have hbm := back_max s _ hg
  obtain ⟨g1, g2, g3⟩ := hg
  dsimp only at hfl hfs hfm g1 g2 g3 hbl hbs hbm
  rw [Int.toNat_natCast] at hfs hfm hbs hbm
  have e1 : (less s ⟨l, h, tx⟩).lo = (l : Int) + front s ⟨l, h, tx⟩ := rfl
  have e2 : (less s ⟨l, h, tx⟩).hi = (h : Int) - back s ⟨l, h, tx⟩ := rfl
  have e3 : (less s ⟨l, h, tx⟩).tx = tx.extract (front s ⟨l, h, tx⟩) (tx.size - back s ⟨l, h, tx⟩) := rfl
  rw [e1, e2, e3]
  clear e1 e2 e3
  generalize front s ⟨l, h, tx⟩ = K at hfl hfs hfm hbl hbs hbm ⊢
  generalize back s ⟨l, h, tx⟩ = M at hbl hbs hbm ⊢
  have HFS := Lib.hid hfs
  have HFM := Lib.hid hfm
  have HBS := Lib.hid hbs
  have HBM := Lib.hid hbm
  clear hfs hfm hbs hbm g1
  go_enter Try.func31, Try.ntmps31
  go_wp2
  go_loopw [] (fun wr => ∃ (j : Nat), j ≤ K ∧ Two w wr ((l + j : Nat) : Int) h (tx.extract j tx.size)) (fun wr => ((h : Int) - numAt wr w.heap.size 0).toNat)
  case atStart => exact ⟨0, Nat.zero_le _, by simpa using hT0⟩
  case round =>
    clear hT0
    obtain ⟨j, hj, hT⟩ := hrel
    have hts : (tx.extract j tx.size).size = tx.size - j := by rw [ByteArray.size_extract]; omega
    by_cases hlt : j < K
    · have hk1 : l + j < s.size := by omega
      have hk2 : 0 < (tx.extract j tx.size).size := by omega
      have heq := HFS.out j hlt hk1 (by omega)
      have h8 : s[l + j] = (tx.extract j tx.size)[0] := by
        rw [heq, ByteArray.getElem_extract]
        rfl
      have hnx : (tx.extract j tx.size).extract 1 (tx.extract j tx.size).size = tx.extract (j + 1) tx.size := by
        rw [ByteArray.extract_extract, hts]
        congr 1
        omega
      have hts2 : (tx.extract j tx.size).size ≤ 9223372036854775807 := by omega
      have HNX := Lib.hid hnx
      generalize tx.extract j tx.size = t at hT hk2 h8 hnx hts2 HNX
      clear hnx hts heq
      have hi64 : l + j < h := by omega
      obtain ⟨la, hla⟩ : ∃ la, la = l + j := ⟨_, rfl⟩
      have HLA := Lib.hid hla
      rw [← hla] at hT hi64
      have d1 : decide ((la : Int) < (h : Int)) = true := decide_eq_true (by omega)
      have hk1' : la < s.size := by omega
      have d3 : (((s[la]'hk1').toNat : Int) == ((t[0]'hk2).toNat : Int)) = true := by subst hla; rw [h8]; simp
      have hk1'' : (la : Int) < (s.size : Int) := by omega
      have hk2' : (0 : Int) < (t.size : Int) := by omega
      have hne := empty_no t hk2
      clear hla h8 hk1
      obtain ⟨c0, c1, c2, _, _, _⟩ := box_cells hT.1
      go_wp2
      go_quiet (fail)
      have hT2 := two_drewN hT nq
      generalize wr.drewN nq = w2 at hT2 ⊢
      clear c0 c1 c2
      obtain ⟨c0, c1, c2, f0, f1, f2⟩ := box_cells hT2.1
      have hT3 := two_lo hT2 ((la : Int) + 1)
      obtain ⟨e0, e1, e2, q0, q1, q2⟩ := box_cells hT3.1
      go_wp2
      have hT4 := two_tx hT3 (t.extract 1 t.size)
      rw [HNX.out] at hT4 ⊢
      have hm1 := num_lo hT4.1
      have hm2 := num_lo hT.1
      clear HFS HFM
      refine ⟨⟨j + 1, by omega, ?_⟩, by rw [hm1, hm2]; omega⟩
      have h9 : ((l + (j + 1) : Nat) : Int) = (la : Int) + 1 := by have := HLA.out; omega
      rw [h9]; exact hT4
    · obtain rfl : j = K := by omega
      have hla : ∃ la, la = l + j := ⟨_, rfl⟩
      obtain ⟨la, hla⟩ := hla
      have HLA := Lib.hid hla
      rw [← hla] at hT
      have hts2 : (tx.extract j tx.size).size ≤ 9223372036854775807 := by omega
      have key : (decide (la < h) = false) ∨ ((la < h ∧ decide ((la : Int) < (h : Int)) = true) ∧ (tx.extract j tx.size).toList.isEmpty = true) ∨
          ((la < h ∧ decide ((la : Int) < (h : Int)) = true) ∧ (tx.extract j tx.size).toList.isEmpty = false ∧ ∃ (q1 : la < s.size) (q2 : 0 < (tx.extract j tx.size).size), (((s[la]'q1).toNat : Int) == (((tx.extract j tx.size)[0]'q2).toNat : Int)) = false) := by
        by_cases k1 : la < h
        · by_cases k2 : (tx.extract j tx.size).size = 0
          · exact .inr (.inl ⟨⟨k1, decide_eq_true (by omega)⟩, empty_yes _ k2⟩)
          · refine .inr (.inr ⟨⟨k1, decide_eq_true (by omega)⟩, empty_no _ (by omega), by omega, by omega, ?_⟩)
            have hne := HFM.out (by omega) (by omega) (by omega)
            rw [beq_eq_false_iff_ne]
            intro e
            apply hne
            subst hla
            have e2 : (tx.extract j tx.size)[0]'(by omega) = tx[j]'(by omega) := by rw [ByteArray.getElem_extract]; rfl
            rw [e2] at e
            exact UInt8.toNat_inj.1 (by omega)
        · exact .inl (decide_eq_false (by omega))
      have hls : la ≤ h := by omega
      clear hla hlt hts
      generalize ht0 : tx.extract j tx.size = t at hT hts2 key
      have HT0 := Lib.hid ht0
      clear ht0
      rcases key with d1 | ⟨⟨d0, d1⟩, d2⟩ | ⟨⟨d0, d1⟩, d2, q1, q2, d3⟩
      case' inr.inr =>
        have q3 : (la : Int) < (s.size : Int) := by omega
        have q4 : (0 : Int) < (t.size : Int) := by omega
      all_goals
        obtain ⟨c0, c1, c2, _, _, _⟩ := box_cells hT.1
        go_wp2
        go_quiet (fail)
        have hT2 := two_drewN hT nq
        generalize wr.drewN nq = w2 at hT2 ⊢
        clear c0 c1 c2
        have hT2' : Two w w2 la ((h - 0 : Nat) : Int) (tx.extract j (tx.size - 0)) := by
          rw [Nat.sub_zero, Nat.sub_zero, HT0.out]; exact hT2
        clear hT hT2
        go_wp2
        go_loopw [] (fun wr => ∃ (i : Nat), i ≤ M ∧ Two w wr la ((h - i : Nat) : Int) (tx.extract j (tx.size - i))) (fun wr => (numAt wr w.heap.size 1).toNat)
        case atStart => exact ⟨0, Nat.zero_le _, hT2'⟩
        case round =>
          clear hT2'
          obtain ⟨i, hi, hT⟩ := hrel
          have hus : (tx.extract j (tx.size - i)).size = tx.size - i - j := by rw [ByteArray.size_extract]; omega
          have hlan := HLA.out
          by_cases hlt : i < M
          · obtain ⟨hp, hhp⟩ : ∃ hp, h - i = hp + 1 := ⟨h - i - 1, by omega⟩
            have k1 : hp < s.size := by omega
            have k2 : (tx.extract j (tx.size - i)).size - 1 < (tx.extract j (tx.size - i)).size := by omega
            have heq := HBS.out i hlt (by omega) (by omega)
            have h8 : s[hp]'k1 = (tx.extract j (tx.size - i))[(tx.extract j (tx.size - i)).size - 1]'k2 := by
              have a1 : (tx.extract j (tx.size - i))[(tx.extract j (tx.size - i)).size - 1]'k2 = tx[tx.size - 1 - i]'(by omega) := by
                rw [ByteArray.getElem_extract]; congr 1; omega
              rw [a1, ← heq]
              congr 1; omega
            have hnx : (tx.extract j (tx.size - i)).extract 0 ((tx.extract j (tx.size - i)).size - 1) = tx.extract j (tx.size - (i + 1)) := by
              rw [ByteArray.extract_extract, hus]
              congr 1; omega
            have HNX := Lib.hid hnx
            have hts3 : (tx.extract j (tx.size - i)).size ≤ 9223372036854775807 := by omega
            have k3 : 0 < (tx.extract j (tx.size - i)).size := by omega
            rw [hhp] at hT
            have hlp : la < hp + 1 := by omega
            have hh64 : hp < 9223372036854775807 := by omega
            generalize tx.extract j (tx.size - i) = u at hT k2 h8 hnx hts3 HNX k3
            have HHP := Lib.hid hhp
            clear hnx hus heq hlan hhp
            have d5 := empty_no u k3
            obtain ⟨up, hup⟩ : ∃ up, u.size = up + 1 := ⟨u.size - 1, by omega⟩
            have k4 : up < u.size := by omega
            have d4 : (((s[hp]'k1).toNat : Int) == ((u[up]'k4).toNat : Int)) = true := by
              rw [h8]
              have : u[u.size - 1]'k2 = u[up]'k4 := by congr 1; omega
              rw [this]; simp
            have d6 : decide ((la : Int) < (hp : Int) + 1) = true := decide_eq_true (by omega)
            have d7 : (hp : Int) < (s.size : Int) := by omega
            have d8 : (up : Int) < (u.size : Int) := by omega
            have w1' : IntKind.i64.wrap (hp : Int) = hp := by rw [IntKind.wrap_i64]; omega
            have w2' : IntKind.i64.wrap ((u.size : Int) - 1) = up := by rw [IntKind.wrap_i64]; omega
            have HUP := Lib.hid hup
            clear h8 k2 k3 hup
            rw [show ((hp + 1 : Nat) : Int) = (hp : Int) + 1 by omega] at hT
            obtain ⟨c0, c1, c2, _, _, _⟩ := box_cells hT.1
            go_wp2
            go_quiet (fail)
            have hT3 := two_drewN hT nq
            have hm2 := num_hi hT.1
            generalize wr.drewN nq = w3 at hT3 ⊢
            clear c0 c1 c2
            obtain ⟨c0, c1, c2, f0, f1, f2⟩ := box_cells hT3.1
            have hT4 := two_hi hT3 (hp : Int)
            obtain ⟨e0, e1, e2, q0, q1, q2⟩ := box_cells hT4.1
            have hT5 := two_tx hT4 (u.extract 0 (u.size - 1))
            rw [HNX.out] at hT5
            have hm1 := num_hi hT5.1
            go_wp2
            have hup := HUP.out
            have hhp := HHP.out
            have h10 : u.extract 0 up = tx.extract j (tx.size - (i + 1)) := by rw [← HNX.out]; congr 1; omega
            rw [h10]
            refine ⟨⟨i + 1, by omega, ?_⟩, by rw [hm1, hm2]; omega⟩
            have h9 : ((h - (i + 1) : Nat) : Int) = (hp : Int) := by omega
            rw [h9]; exact hT5
          · obtain rfl : i = M := by omega
            have hts3 : (tx.extract j (tx.size - i)).size ≤ 9223372036854775807 := by omega
            obtain ⟨ha, hha⟩ : ∃ ha, ha = h - i := ⟨_, rfl⟩
            have key : (decide (la < ha) = false) ∨ ((la < ha ∧ decide ((la : Int) < (ha : Int)) = true) ∧ (tx.extract j (tx.size - i)).toList.isEmpty = true) ∨
                ((la < ha ∧ decide ((la : Int) < (ha : Int)) = true) ∧ (tx.extract j (tx.size - i)).toList.isEmpty = false ∧ ∃ (hp up : Nat) (q1 : hp < s.size) (q2 : up < (tx.extract j (tx.size - i)).size), ha = hp + 1 ∧ (tx.extract j (tx.size - i)).size = up + 1 ∧ (((s[hp]'q1).toNat : Int) == (((tx.extract j (tx.size - i))[up]'q2).toNat : Int)) = false) := by
              by_cases k1 : la < ha
              · by_cases k2 : (tx.extract j (tx.size - i)).size = 0
                · exact .inr (.inl ⟨⟨k1, decide_eq_true (by omega)⟩, empty_yes _ k2⟩)
                · refine .inr (.inr ⟨⟨k1, decide_eq_true (by omega)⟩, empty_no _ (by omega), ha - 1, (tx.extract j (tx.size - i)).size - 1, by omega, by omega, by omega, by omega, ?_⟩)
                  have hne := HBM.out (by omega) (by omega) (by omega) (by omega)
                  rw [beq_eq_false_iff_ne]
                  intro e
                  apply hne
                  have a1 : (tx.extract j (tx.size - i))[(tx.extract j (tx.size - i)).size - 1]'(by omega) = tx[tx.size - 1 - i]'(by omega) := by
                    rw [ByteArray.getElem_extract]; congr 1; omega
                  have a2 : s[ha - 1]'(by omega) = s[h - 1 - i]'(by omega) := by congr 1; omega
                  rw [a1, a2] at e
                  exact UInt8.toNat_inj.1 (by omega)
              · exact .inl (decide_eq_false (by omega))
            rw [← hha] at hT
            have hla : la ≤ ha := by omega
            have hva : (l : Int) + j = (la : Int) ∧ (h : Int) - i = (ha : Int) := by omega
            have HVA := Lib.hid hva
            clear hva hha hus hlan hlt
            generalize hu0 : tx.extract j (tx.size - i) = u at hT hts3 key ⊢
            have HU0 := Lib.hid hu0
            clear hu0
            rcases key with d1 | ⟨⟨d0, d1⟩, d2⟩ | ⟨⟨d0, d1⟩, d2, hp, up, q1, q2, hhp, hup, d3⟩
            case' inr.inr =>
              have q3 : (hp : Int) < (s.size : Int) := by omega
              have q4 : (up : Int) < (u.size : Int) := by omega
              have w1' : IntKind.i64.wrap (hp : Int) = hp := by rw [IntKind.wrap_i64]; omega
              have w2' : IntKind.i64.wrap ((u.size : Int) - 1) = up := by rw [IntKind.wrap_i64]; omega
              have w3' : IntKind.i64.wrap ((ha : Int) - 1) = hp := by rw [IntKind.wrap_i64]; omega
              clear hup hhp
            all_goals
              obtain ⟨c0, c1, c2, _, _, _⟩ := box_cells hT.1
              go_wp2
              go_quiet (fail)
              have hT3 := two_drewN hT nq
              generalize wr.drewN nq = w3 at hT3 ⊢
              clear c0 c1 c2
              obtain ⟨c0, c1, c2, _, _, _⟩ := box_cells hT3.1
              go_wp2_with (first
                | (refine wpList_store_rowTo rfl 36 (.tmp 4) (.tmp 70) rfl rfl (w.heap.size + 1) #[.int .i64 la, .int .i64 ha, .string u] rfl rfl 36 #[.int .i64 0, .int .i64 0, .string ⟨#[]⟩] hT3.2.1 info36 rfl (by simp [Value.oneCell']) ?_))
              (try simp only [Exit.inBlock, Exit.then])
              refine bodyPost_ret (v := .agg #[.int .i64 la, .int .i64 ha, .string u]) (results_cell_row rfl _ _ (w.heap.size + 1) 36 _ (0, 0) _ rfl (setRow_heap _ _ _ _ _ _ hT3.2.1) Try.underlying36 rfl info36) rfl ⟨?_, below_setRow hT3.2.2 (by omega) _⟩
              rw [HVA.out.1, HVA.out.2, HU0.out]
theorem trimmed_any (s : ByteArray) (x : Ed) (hg : Good s x) (hs : s.size ≤ maxLen) (ht : x.tx.size ≤ maxLen) (w : World) :
    Calls Try.prog 31 #[.string s, .agg #[.int .i64 x.lo, .int .i64 x.hi, .string x.tx]] w fun e w' => e = .returned (.agg #[.int .i64 (less s x).lo, .int .i64 (less s x).hi, .string (less s x).tx]) ∧ Below w.heap.size w w' := by
  obtain ⟨lo, hi, tx⟩ := x
  obtain ⟨l, rfl⟩ : ∃ l : Nat, lo = (l : Int) := ⟨lo.toNat, by have := hg.1; dsimp only at this; omega⟩
  obtain ⟨h, rfl⟩ : ∃ h : Nat, hi = (h : Int) := ⟨hi.toNat, by have := hg.2.1; dsimp only at this; omega⟩
  exact trimmed_nat s l h tx hg hs ht w
end Go.Proofs.Ytigmakdfladjnaa
