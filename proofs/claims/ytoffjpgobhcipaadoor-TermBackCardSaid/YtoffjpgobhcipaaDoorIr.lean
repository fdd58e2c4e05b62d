/-
  Layer 11: contract of term.head.
-/
import Derived.Test.YtoffjpgobhcipaaDoorKa
import Derived.Test.YtoffjpgobhcipaaDoorQh
import Derived.Deep.Cut
import Derived.Deep.RegionHeld3
import Derived.Laws.ResultCell
import Derived.Laws.CopyOwn
import Derived.Great.BuildSlice
namespace Go.Proofs.YtoffjpgobhcipaaDoor.Trm
open Go.ChangeShapes Go.WideShapes Go.ChangeAt Go.RowKit

theorem info28s : (Tryd.prog.info? 33).map (·.size) = some 3 := by kernel_rfl
theorem dig_byte {s : ByteArray} {k : Nat} (h : k < digLen s.data.toList) : ∃ hk : k < s.size, isDig s[k] = true := by
  obtain ⟨c, h1, h2⟩ := dig_at h
  obtain ⟨hk, he⟩ := List.getElem?_eq_some_iff.1 h1
  have hk2 : k < s.size := by simpa using hk
  exact ⟨hk2, by rw [← he] at h2; exact h2⟩
theorem dig_int {c : UInt8} (h : isDig c = true) : (48 : Int) ≤ c.toNat ∧ (c.toNat : Int) ≤ 57 := by
  unfold isDig at h
  simp only [Bool.and_eq_true, decide_eq_true_eq] at h
  omega
theorem dig_not {c : UInt8} (h : isDig c = false) : (c.toNat : Int) < 48 ∨ 57 < (c.toNat : Int) := by
  unfold isDig at h
  simp only [Bool.and_eq_false_iff, decide_eq_false_iff_not] at h
  omega
theorem results_row_int {fn : Func} {p u : Tmp} (h : fn.results = #[.cell p 33, .tmp u]) (tmps : Array Value) (w : World) (g : Nat) (cs : Array Value)
    (hp : tmps.getD p undef = .pointer (some ⟨g, 0, none⟩)) (hg : w.heap[g]? = some (.cells cs 33 (0, 0))) (hi : 3 = cs.size) :
    (results fn tmps).run Tryd.prog w = .ok (.tuple #[.agg cs, tmps.getD u undef]) w := by
  have hp' : tmps[p]?.getD undef = .pointer (some ⟨g, 0, none⟩) := by simpa using hp
  rw [results_cell_tmp h]
  have hl := run_loadVar_row w g 33 33 cs (0, 0) _ hg Tryd.underlying33 rfl (by rw [info28s, hi])
  simp [hp', asAddr, hl, Result.andThen]
theorem scan_at (l : List UInt8) (n : Nat) (h : l[n + 1]? = some 34) : scanP l ((n : Int) + 1) = match readOf (l.drop (n + 1)) 0 with | some (K, _, m) => (K, ((n + 1 + m : Nat) : Int), 0) | none => (0, 0, 4) := by
  have ht : ((n : Int) + 1).toNat = n + 1 := by omega
  have hm : markAt l ((n : Int) + 1) = true := by
    unfold markAt
    rw [ht, h, decide_eq_true (by omega)]; rfl
  unfold scanP
  rw [if_pos hm, ht, readOf_rel]
  cases readOf (l.drop (n + 1)) 0 with
  | none => rfl
  | some x => obtain ⟨K, L, m⟩ := x; rfl
theorem value_at {l L : List UInt8} {K m : Nat} (h : readOf l 0 = some (K, L, m)) (h34 : l[0]? = some 34) : valueP (l.take m) = some L := by
  obtain ⟨h1, h2, _, _, h5⟩ := readOf_len h
  have h6 := h5 []
  rw [List.append_nil] at h6
  refine read_valueP (K := K) ?_ (by rw [h6, List.length_take, Nat.min_eq_left h2])
  cases l with
  | nil => cases h34
  | cons c t =>
    injection h34 with h34
    subst h34
    obtain ⟨m, rfl⟩ : ∃ m', m = m' + 1 := ⟨m - 1, by omega⟩
    rw [List.take_succ_cons]; rfl
theorem bcell {W w1 : World} (hb : Below W.heap.size W w1) : (∀ b o, b < W.heap.size → w1.cell? ⟨b, o, none⟩ = W.cell? ⟨b, o, none⟩) ∧ (∀ b o, b < W.heap.size → w1.frozen? ⟨b, o, none⟩ = W.frozen? ⟨b, o, none⟩) :=
  ⟨fun b o h => hb.cell (p := ⟨b, o, none⟩) h, fun b o h => hb.frozen (p := ⟨b, o, none⟩) h⟩
theorem slice_str (s : ByteArray) (a b : Nat) (h1 : a ≤ b) (h2 : b ≤ s.size) (x y : Int) (hx : x = a) (hy : y = b) (w : World) :
    (Instr.slice 9 (.string s) (some (.int .i64 x)) (some (.int .i64 y)) none).run Tryd.prog w = .ok (.string (s.extract a b)) w := by
  subst hx hy
  rw [run_slice_string _ 9 s .i64 .i64 _ _ Tryd.underlying9 (by omega) (by omega) (by omega)]
  simp
theorem keeps_alloc0 (w : World) (o : Obj) (k : Nat) (cur : Array Value) (t : TypeId) (fr : Nat × Nat) (hk : w.heap[k]? = some (.cells cur t fr)) : (w.alloc o).heap[k]? = some (.cells cur t fr) := by
  have hkl := (Array.getElem?_eq_some_iff.1 hk).1
  show (w.heap.push _)[k]? = _
  rw [Array.getElem?_push, if_neg (by omega), hk]
theorem strR_says : ∀ (f : Nat) (l L : List UInt8) (n : Nat), strR f l = some (L, n) → L.length ≤ n
  | 0, _, _, _, h => by cases h
  | f + 1, [], _, _, h => by cases h
  | f + 1, c :: t, L, n, h => by
    rw [strR_cons] at h
    split at h
    · cases h; simp
    · split at h
      · cases h
      · split at h
        · cases he : escOf 34 0 t with
          | none => rw [he] at h; cases h
          | some x =>
            rw [he] at h
            have h' : (strR f (t.drop x.2)).map (fun y => (x.1 ++ y.1, 1 + x.2 + y.2)) = some (L, n) := h
            cases hs : strR f (t.drop x.2) with
            | none => rw [hs] at h'; cases h'
            | some y =>
              rw [hs] at h'
              cases h'
              have h1 := strR_says f _ y.1 y.2 hs
              have h2 := escOf_grow (L := x.1) (k' := x.2) he
              rw [List.length_append]; omega
        · cases hs : strR f t with
          | none => rw [hs] at h; cases h
          | some y =>
            rw [hs] at h
            cases h
            have h1 := strR_says f _ y.1 y.2 hs
            rw [List.length_cons]; omega
theorem value_len {l v : List UInt8} (h : valueP l = some v) (h0 : l[0]? = some 34) : v.length ≤ l.length := by
  obtain ⟨_, K, hr⟩ := valueP_read h
  cases l with
  | nil => cases h0
  | cons c t =>
    have hc : c = 34 := by simpa using h0
    subst hc
    obtain ⟨f, j, e1, e2⟩ := str_read hr
    have := strR_says _ _ _ _ e1
    omega
theorem prefix_at (l : List UInt8) (n : Nat) : Lib.hasPrefix (l.drop n) [32, 34] = decide (l[n]? = some 32 ∧ l[n + 1]? = some 34) := by
  rw [show l[n]? = (l.drop n)[0]? by rw [List.getElem?_drop, Nat.add_zero], show l[n + 1]? = (l.drop n)[1]? by rw [List.getElem?_drop]]
  unfold Lib.hasPrefix
  generalize l.drop n = X
  rcases X with _ | ⟨a, _ | ⟨b, t⟩⟩
  · rfl
  · rw [Bool.eq_iff_iff]; simp [List.isPrefixOf]
  · rw [Bool.eq_iff_iff]
    simp only [List.isPrefixOf, Bool.and_true, Bool.and_eq_true, beq_iff_eq, decide_eq_true_eq, List.getElem?_cons_zero, List.getElem?_cons_succ, Option.some.injEq]
    exact ⟨fun h => ⟨h.1.symm, h.2.symm⟩, fun h => ⟨h.1.symm, h.2.symm⟩⟩
def zeroPt : Array Value := #[.int .u8 0, .int .i64 0, .string ⟨#[]⟩]
def zeroHead : Value := .tuple #[.agg #[.int .u8 0, .int .i64 0, .string ⟨#[]⟩], .int .i64 0]
set_option maxRecDepth 100000 in
set_option maxHeartbeats 40000000 in
theorem head_any (s : ByteArray) (hs : s.size ≤ 1048576) (w : World) (hE : Errs w) :
    Calls Tryd.prog 23 #[.string s] w fun e w' => e = .returned (headAns s.data.toList) ∧ Below w.heap.size w w' := by
  have hl : s.data.toList.length = s.size := by simp
  obtain ⟨n, hn⟩ : ∃ n, n = digLen s.data.toList := ⟨_, rfl⟩
  have hns : n ≤ s.size := by have := (dig_split s.data.toList).2.2; rw [hl, ← hn] at this; exact this
  have HD := Lib.hid (fun k (hk : k < n) => dig_byte (s := s) (k := k) (by rw [← hn]; exact hk))
  have HST : Hid (∀ h : n < s.size, isDig s[n] = false) := Lib.hid (fun h => dig_stop (l := s.data.toList) (by rw [← hn]; exact at_of s n h))
  have hh := head_is s.data.toList
  rw [← hn] at hh
  have HH := Lib.hid hh
  have HN := Lib.hid hn
  have HEE := Lib.hid hE
  have HPD : Hid (∀ w, Errs w → Calls Tryd.prog 36 #[.string (s.extract 0 n), .int .i64 10, .int .i64 8] w fun e w' => parseV (s.data.toList.take n) e ∧ Below w.heap.size w w') := Lib.hid (fun w hE => by
    have hx : (s.extract 0 n).data.toList = s.data.toList.take n := by simp
    have := parse_any (s.extract 0 n) (by simp; omega) (by rw [hx]; intro c hc; rw [hn, ← (dig_split s.data.toList).1] at hc; exact all_take _ c hc) w hE
    rwa [hx] at this)
  obtain ⟨A, hA⟩ : ∃ A, A = headAns s.data.toList := ⟨_, rfl⟩
  rw [← hA]
  unfold headAns at hA
  rw [hl] at hA
  have HA := Lib.hid hA
  have hx0 : (s.extract n s.size).data.toList = s.data.toList.drop n := by simp; rw [List.take_of_length_le (by simp)]
  have HPX : Hid (∀ w, Calls Tryd.prog 22 #[.string (s.extract n s.size), .string ⟨#[32, 34]⟩] w fun e w' => e = .returned (.bool (decide (s.data.toList[n]? = some 32 ∧ s.data.toList[n + 1]? = some 34))) ∧ w' = w) := Lib.hid (fun w => by
    have := Tryd.strings_HasPrefix (s.extract n s.size) ⟨#[32, 34]⟩ w
    rwa [hx0, show (⟨#[32, 34]⟩ : ByteArray).data.toList = [32, 34] from rfl, prefix_at] at this)
  have HC1 := Lib.hid (fun w => scan_any s (by omega) ((n : Int) + 1) w)
  have HC2 : Hid (∀ e, n + 1 ≤ e → e ≤ s.size → ∀ w, Calls Tryd.prog 38 #[.string (s.extract (n + 1) e)] w fun e' w' => e' = .returned (valueAns (valueP ((s.data.toList.drop (n + 1)).take (e - (n + 1))))) ∧ Below w.heap.size w w') := Lib.hid (fun e h1 h2 w => by
    have := value_any (s.extract (n + 1) e) (by simp; omega) w
    rwa [show (s.extract (n + 1) e).data.toList = (s.data.toList.drop (n + 1)).take (e - (n + 1)) by simp] at this)
  clear hn hh hE hA hx0
  go_enter Tryd.func23, Tryd.ntmps23
  go_wp2
  go_loop [4] (fun t => ∃ k : Nat, k ≤ n ∧ t = .int .i64 k) (fun t => n - (intOf t).toNat)
  case atStart => exact ⟨0, Nat.zero_le _, rfl⟩
  case round =>
    obtain ⟨k, hk, rfl⟩ := hrel
    by_cases hlt : k < n
    · obtain ⟨hks, hd⟩ := HD.out k hlt
      obtain ⟨d1, d2⟩ := dig_int hd
      clear hd
      go_wp2
      go_round
      case rel => exact ⟨k + 1, hlt, by go_num⟩
      case measure => simp [intOf]; omega
    · obtain rfl : k = n := by omega
      have hend : (s.size ≤ k) ∨ (∃ h : k < s.size, (s[k].toNat : Int) < 48) ∨ (∃ h : k < s.size, (48 : Int) ≤ s[k].toNat ∧ 57 < (s[k].toNat : Int)) := by
        by_cases h : k < s.size
        · rcases dig_not (HST.out h) with h1 | h1
          · exact .inr (.inl ⟨h, h1⟩)
          · exact .inr (.inr ⟨h, by omega, h1⟩)
        · exact .inl (by omega)
      rcases hend with hend | ⟨hks, h48⟩ | ⟨hks, h48, h57⟩
      · go_upto_region 4 with fail
        clear HD HST
        have HF0 : Hid ((w.alloc (.cells #[.int .u8 0, .int .i64 0, .string ⟨#[]⟩] 33)).heap[w.heap.size]? = some (.cells #[.int .u8 0, .int .i64 0, .string ⟨#[]⟩] 33 (0, 0))) := Lib.hid (heap_alloc_new w _)
        have HB0 : Hid (Below w.heap.size w (w.alloc (.cells #[.int .u8 0, .int .i64 0, .string ⟨#[]⟩] 33))) := Lib.hid ((Below.refl _ w).alloc (Nat.le_refl _) _)
        by_cases hok : s.data.toList.take k ≠ [] ∧ valD (s.data.toList.take k) ≤ 255
        · obtain ⟨hok1, hok2⟩ := hok
          have hk0 : 0 < k := by
            rcases Nat.eq_zero_or_pos k with h | h
            · exfalso; apply hok1; rw [h]; rfl
            · exact h
          have hs0 : 0 < s.size := by omega
          have h10 : (0 : Int) < s.size := by omega
          obtain ⟨V, hV⟩ : ∃ V, V = valD (s.data.toList.take k) := ⟨_, rfl⟩
          have hc : ∀ w, Errs w → Calls Tryd.prog 36 #[.string (s.extract 0 k), .int .i64 10, .int .i64 8] w fun e w' => e = .returned (.tuple #[.int .u64 V, .nilIface]) ∧ Below w.heap.size w w' := fun w hE => (HPD.out w hE).mono fun e w' ⟨a, b⟩ => ⟨by unfold parseV at a; rw [if_pos ⟨hok1, hok2⟩, ← hV] at a; exact a, b⟩
          rw [← hV] at hok2
          have ha0 := at_of s 0 hs0
          by_cases h48 : s[0] = 48 ∧ 1 < k
          · have HZ : Hid (A = zeroHead) := Lib.hid (by
              rw [HA.out, HH.out, if_neg]; rfl
              rintro ⟨_, _, x⟩
              have hd1 := x (by rw [ha0, h48.1])
              omega)
            obtain ⟨h481, h482⟩ := h48
            have hb : (s[0].toNat : Int) = 48 := by rw [h481]; rfl
            have h1k : (1 : Int) < k := by omega
            clear hok1 h481 ha0 hV
            go_wp2_with (first
              | (go_at_call 36; refine (hc _ (errs_below HEE.out ((Below.refl _ w).alloc (Nat.le_refl _) _))).mono ?_; rintro e w2 ⟨rfl, hB2⟩; have HF2 := Lib.hid ((hB2.block w.heap.size (by simp)).trans HF0.out); have HB2 := Lib.hid (HB0.out.trans (hB2.mono HB0.out.size)); clear hB2)
              | (refine wpList_buildTo rfl 33 _ rfl (some 47) rfl #[.int .u8 0, .int .i64 0, .string ⟨#[]⟩] (by kernel_rfl) ?_)
              | (refine wpList_store_rowTo rfl 33 (.tmp 2) (.tmp 47) rfl rfl w.heap.size #[.int .u8 0, .int .i64 0, .string ⟨#[]⟩] rfl rfl 33 #[.int .u8 0, .int .i64 0, .string ⟨#[]⟩] HF2.out info28s rfl (by simp [Value.oneCell']) ?_))
            (try simp only [Exit.inBlock, Exit.then])
            exact bodyPost_ret (v := .tuple #[.agg #[.int .u8 0, .int .i64 0, .string ⟨#[]⟩], .int .i64 0]) (results_row_int (p := 2) (u := 3) rfl _ _ w.heap.size _ rfl (setRow_heap _ _ _ _ _ _ HF2.out) rfl) rfl ⟨by rw [HZ.out]; rfl, below_setRow HB2.out (Nat.le_refl _) _⟩
          · have hA2 : s.data.toList.take k ≠ [] ∧ V ≤ 255 ∧ (s.data.toList[0]? = some 48 → k = 1) := ⟨hok1, hok2, fun x => by
              rw [ha0] at x
              injection x with x
              have : ¬ 1 < k := fun y => h48 ⟨x, y⟩
              omega⟩
            have hHH := HH.out
            rw [← hV, if_pos hA2] at hHH
            have HH2 := Lib.hid hHH
            have hcase : (s[0].toNat : Int) ≠ 48 ∨ ((s[0].toNat : Int) = 48 ∧ ¬ (1 : Int) < k) := by
              by_cases h : s[0] = 48
              · exact .inr ⟨by rw [h]; rfl, fun y => h48 ⟨h, by omega⟩⟩
              · exact .inl (fun e => h (UInt8.toNat_inj.1 (by have : (48 : UInt8).toNat = 48 := rfl; omega)))
            clear hok1 h48 ha0 hV hA2 hHH
            have hq8 : ((s[0].toNat : Int) == 48) = true ∨ ((s[0].toNat : Int) == 48) = false := by cases ((s[0].toNat : Int) == 48) <;> simp
            rcases hcase with hb | ⟨hb, h1k⟩
            all_goals
              go_upto_region 8 with (go_at_call 36; refine (hc _ (errs_below HEE.out ((Below.refl _ w).alloc (Nat.le_refl _) _))).mono ?_; rintro e w2 ⟨rfl, hB2⟩; have HF2 := Lib.hid ((hB2.block w.heap.size (by simp)).trans HF0.out); have HB2 := Lib.hid (HB0.out.trans (hB2.mono HB0.out.size)); clear hB2)
              have HFb : Hid ((w2.alloc (.cells #[.int .u8 V, .int .i64 0, .string ⟨#[]⟩] 33)).heap[w.heap.size]? = some (.cells #[.int .u8 0, .int .i64 0, .string ⟨#[]⟩] 33 (0, 0))) := Lib.hid (keeps_alloc0 w2 _ _ _ _ _ HF2.out)
              have HBb := Lib.hid (HB2.out.alloc HB2.out.size (.cells #[.int .u8 V, .int .i64 0, .string ⟨#[]⟩] 33))
              have HPb : Hid ((w2.alloc (.cells #[.int .u8 V, .int .i64 0, .string ⟨#[]⟩] 33)).heap[w2.heap.size]? = some (.cells #[.int .u8 V, .int .i64 0, .string ⟨#[]⟩] 33 (0, 0))) := Lib.hid (heap_alloc_new w2 _)
              have hwlt : w.heap.size < w2.heap.size := (Array.getElem?_eq_some_iff.1 HF2.out).1
              have HPX2 := HPX.out
              obtain ⟨W3, hW3⟩ : ∃ W3, W3 = w2.alloc (.cells #[.int .u8 V, .int .i64 0, .string ⟨#[]⟩] 33) := ⟨_, rfl⟩
              have hW3s : w2.heap.size < W3.heap.size := by rw [hW3]; simp
              rw [← hW3] at HFb HBb HPb ⊢
              clear hW3 hc HF2 HB2 HF0 HB0
              by_cases hq : s.data.toList[k]? = some 32 ∧ s.data.toList[k + 1]? = some 34
              · rw [decide_eq_true hq] at HPX2
                have hq2 := hq.2
                have hHQ := HH2.out
                rw [if_pos hq] at hHQ
                have hr34 : (s.data.toList.drop (k + 1))[0]? = some 34 := by rw [List.getElem?_drop, Nat.add_zero]; exact hq2
                have hk1 : k + 1 < s.size := by have := (List.getElem?_eq_some_iff.1 hq2).1; rw [hl] at this; exact this
                have hsc := HC1.out
                rw [scan_at _ _ hq2] at hsc
                clear hq
                exfalso; omega
              · rw [decide_eq_false hq] at HPX2
                have HZ : Hid (A = .tuple #[.agg #[.int .u8 V, .int .i64 0, .string ⟨#[]⟩], .int .i64 k]) := Lib.hid (by
                  rw [HA.out, HH2.out, if_neg hq]
                  show Value.tuple #[.agg #[.int .u8 ((V : Nat) : Int), .int .i64 0, .string ⟨#[]⟩], .int .i64 ((s.size - (s.data.toList.drop k).length : Nat) : Int)] = _
                  rw [List.length_drop, hl, show s.size - (s.size - k) = k by omega])
                have k0 : W3.cell? ⟨w2.heap.size, 0, none⟩ = some (.int .u8 V) := (cell_of_row W3 w2.heap.size 0 _ 33 (0, 0) HPb.out).trans rfl
                have k1 : W3.cell? ⟨w2.heap.size, 1, none⟩ = some (.int .i64 0) := (cell_of_row W3 w2.heap.size 1 _ 33 (0, 0) HPb.out).trans rfl
                have k2 : W3.cell? ⟨w2.heap.size, 2, none⟩ = some (.string ⟨#[]⟩) := (cell_of_row W3 w2.heap.size 2 _ 33 (0, 0) HPb.out).trans rfl
                clear hq
                go_wp2_with (first
                  | (go_at_call 22; refine (HPX2 _).mono ?_; rintro e w4 ⟨rfl, rfl⟩)
                  | (refine wpList_store_rowTo rfl 33 (.tmp 2) (.tmp 56) rfl rfl w.heap.size #[.int .u8 V, .int .i64 0, .string ⟨#[]⟩] rfl rfl 33 #[.int .u8 0, .int .i64 0, .string ⟨#[]⟩] HFb.out info28s rfl (by simp [Value.oneCell']) ?_))
                (try simp only [Exit.inBlock, Exit.then])
                exact bodyPost_ret (v := .tuple #[.agg #[.int .u8 V, .int .i64 0, .string ⟨#[]⟩], .int .i64 k]) (results_row_int (p := 2) (u := 3) rfl _ _ w.heap.size _ rfl (setRow_heap _ _ _ _ _ _ HFb.out) rfl) rfl ⟨by rw [HZ.out], below_setRow HBb.out (Nat.le_refl _) _⟩
        · have hc : ∀ w, Errs w → Calls Tryd.prog 36 #[.string (s.extract 0 k), .int .i64 10, .int .i64 8] w fun e w' => (∃ (z : Int) (p : Value), e = .returned (.tuple #[.int .u64 z, .iface 91 p])) ∧ Below w.heap.size w w' := fun w hE => (HPD.out w hE).mono fun e w' ⟨a, b⟩ => ⟨by unfold parseV at a; rwa [if_neg hok] at a, b⟩
          have HZ : Hid (A = zeroHead) := Lib.hid (by rw [HA.out, HH.out, if_neg (fun x => hok ⟨x.1, x.2.1⟩)]; rfl)
          clear hok
          go_wp2_with (first
            | (go_at_call 36; refine (hc _ (errs_below HEE.out ((Below.refl _ w).alloc (Nat.le_refl _) _))).mono ?_; rintro e w2 ⟨⟨z, p, rfl⟩, hB2⟩; have HF2 := Lib.hid ((hB2.block w.heap.size (by simp)).trans HF0.out); have HB2 := Lib.hid (HB0.out.trans (hB2.mono HB0.out.size)); clear hB2)
            | (refine wpList_buildTo rfl 33 _ rfl (some 47) rfl #[.int .u8 0, .int .i64 0, .string ⟨#[]⟩] (by kernel_rfl) ?_)
            | (refine wpList_store_rowTo rfl 33 (.tmp 2) (.tmp 47) rfl rfl w.heap.size #[.int .u8 0, .int .i64 0, .string ⟨#[]⟩] rfl rfl 33 #[.int .u8 0, .int .i64 0, .string ⟨#[]⟩] HF2.out info28s rfl (by simp [Value.oneCell']) ?_))
          (try simp only [Exit.inBlock, Exit.then])
          exact bodyPost_ret (v := .tuple #[.agg #[.int .u8 0, .int .i64 0, .string ⟨#[]⟩], .int .i64 0]) (results_row_int (p := 2) (u := 3) rfl _ _ w.heap.size _ rfl (setRow_heap _ _ _ _ _ _ HF2.out) rfl) rfl ⟨by rw [HZ.out]; rfl, below_setRow HB2.out (Nat.le_refl _) _⟩
      · go_upto_region 4 with fail
        clear HD HST
        have HF0 : Hid ((w.alloc (.cells #[.int .u8 0, .int .i64 0, .string ⟨#[]⟩] 33)).heap[w.heap.size]? = some (.cells #[.int .u8 0, .int .i64 0, .string ⟨#[]⟩] 33 (0, 0))) := Lib.hid (heap_alloc_new w _)
        have HB0 : Hid (Below w.heap.size w (w.alloc (.cells #[.int .u8 0, .int .i64 0, .string ⟨#[]⟩] 33))) := Lib.hid ((Below.refl _ w).alloc (Nat.le_refl _) _)
        by_cases hok : s.data.toList.take k ≠ [] ∧ valD (s.data.toList.take k) ≤ 255
        · obtain ⟨hok1, hok2⟩ := hok
          have hk0 : 0 < k := by
            rcases Nat.eq_zero_or_pos k with h | h
            · exfalso; apply hok1; rw [h]; rfl
            · exact h
          have hs0 : 0 < s.size := by omega
          have h10 : (0 : Int) < s.size := by omega
          obtain ⟨V, hV⟩ : ∃ V, V = valD (s.data.toList.take k) := ⟨_, rfl⟩
          have hc : ∀ w, Errs w → Calls Tryd.prog 36 #[.string (s.extract 0 k), .int .i64 10, .int .i64 8] w fun e w' => e = .returned (.tuple #[.int .u64 V, .nilIface]) ∧ Below w.heap.size w w' := fun w hE => (HPD.out w hE).mono fun e w' ⟨a, b⟩ => ⟨by unfold parseV at a; rw [if_pos ⟨hok1, hok2⟩, ← hV] at a; exact a, b⟩
          rw [← hV] at hok2
          have ha0 := at_of s 0 hs0
          by_cases h48 : s[0] = 48 ∧ 1 < k
          · have HZ : Hid (A = zeroHead) := Lib.hid (by
              rw [HA.out, HH.out, if_neg]; rfl
              rintro ⟨_, _, x⟩
              have hd1 := x (by rw [ha0, h48.1])
              omega)
            obtain ⟨h481, h482⟩ := h48
            have hb : (s[0].toNat : Int) = 48 := by rw [h481]; rfl
            have h1k : (1 : Int) < k := by omega
            clear hok1 h481 ha0 hV
            go_wp2_with (first
              | (go_at_call 36; refine (hc _ (errs_below HEE.out ((Below.refl _ w).alloc (Nat.le_refl _) _))).mono ?_; rintro e w2 ⟨rfl, hB2⟩; have HF2 := Lib.hid ((hB2.block w.heap.size (by simp)).trans HF0.out); have HB2 := Lib.hid (HB0.out.trans (hB2.mono HB0.out.size)); clear hB2)
              | (refine wpList_buildTo rfl 33 _ rfl (some 47) rfl #[.int .u8 0, .int .i64 0, .string ⟨#[]⟩] (by kernel_rfl) ?_)
              | (refine wpList_store_rowTo rfl 33 (.tmp 2) (.tmp 47) rfl rfl w.heap.size #[.int .u8 0, .int .i64 0, .string ⟨#[]⟩] rfl rfl 33 #[.int .u8 0, .int .i64 0, .string ⟨#[]⟩] HF2.out info28s rfl (by simp [Value.oneCell']) ?_))
            (try simp only [Exit.inBlock, Exit.then])
            exact bodyPost_ret (v := .tuple #[.agg #[.int .u8 0, .int .i64 0, .string ⟨#[]⟩], .int .i64 0]) (results_row_int (p := 2) (u := 3) rfl _ _ w.heap.size _ rfl (setRow_heap _ _ _ _ _ _ HF2.out) rfl) rfl ⟨by rw [HZ.out]; rfl, below_setRow HB2.out (Nat.le_refl _) _⟩
          · have hA2 : s.data.toList.take k ≠ [] ∧ V ≤ 255 ∧ (s.data.toList[0]? = some 48 → k = 1) := ⟨hok1, hok2, fun x => by
              rw [ha0] at x
              injection x with x
              have : ¬ 1 < k := fun y => h48 ⟨x, y⟩
              omega⟩
            have hHH := HH.out
            rw [← hV, if_pos hA2] at hHH
            have HH2 := Lib.hid hHH
            have hcase : (s[0].toNat : Int) ≠ 48 ∨ ((s[0].toNat : Int) = 48 ∧ ¬ (1 : Int) < k) := by
              by_cases h : s[0] = 48
              · exact .inr ⟨by rw [h]; rfl, fun y => h48 ⟨h, by omega⟩⟩
              · exact .inl (fun e => h (UInt8.toNat_inj.1 (by have : (48 : UInt8).toNat = 48 := rfl; omega)))
            clear hok1 h48 ha0 hV hA2 hHH
            have hq8 : ((s[0].toNat : Int) == 48) = true ∨ ((s[0].toNat : Int) == 48) = false := by cases ((s[0].toNat : Int) == 48) <;> simp
            rcases hcase with hb | ⟨hb, h1k⟩
            all_goals
              go_upto_region 8 with (go_at_call 36; refine (hc _ (errs_below HEE.out ((Below.refl _ w).alloc (Nat.le_refl _) _))).mono ?_; rintro e w2 ⟨rfl, hB2⟩; have HF2 := Lib.hid ((hB2.block w.heap.size (by simp)).trans HF0.out); have HB2 := Lib.hid (HB0.out.trans (hB2.mono HB0.out.size)); clear hB2)
              have HFb : Hid ((w2.alloc (.cells #[.int .u8 V, .int .i64 0, .string ⟨#[]⟩] 33)).heap[w.heap.size]? = some (.cells #[.int .u8 0, .int .i64 0, .string ⟨#[]⟩] 33 (0, 0))) := Lib.hid (keeps_alloc0 w2 _ _ _ _ _ HF2.out)
              have HBb := Lib.hid (HB2.out.alloc HB2.out.size (.cells #[.int .u8 V, .int .i64 0, .string ⟨#[]⟩] 33))
              have HPb : Hid ((w2.alloc (.cells #[.int .u8 V, .int .i64 0, .string ⟨#[]⟩] 33)).heap[w2.heap.size]? = some (.cells #[.int .u8 V, .int .i64 0, .string ⟨#[]⟩] 33 (0, 0))) := Lib.hid (heap_alloc_new w2 _)
              have hwlt : w.heap.size < w2.heap.size := (Array.getElem?_eq_some_iff.1 HF2.out).1
              have HPX2 := HPX.out
              obtain ⟨W3, hW3⟩ : ∃ W3, W3 = w2.alloc (.cells #[.int .u8 V, .int .i64 0, .string ⟨#[]⟩] 33) := ⟨_, rfl⟩
              have hW3s : w2.heap.size < W3.heap.size := by rw [hW3]; simp
              rw [← hW3] at HFb HBb HPb ⊢
              clear hW3 hc HF2 HB2 HF0 HB0
              by_cases hq : s.data.toList[k]? = some 32 ∧ s.data.toList[k + 1]? = some 34
              · rw [decide_eq_true hq] at HPX2
                have hq2 := hq.2
                have hHQ := HH2.out
                rw [if_pos hq] at hHQ
                have hr34 : (s.data.toList.drop (k + 1))[0]? = some 34 := by rw [List.getElem?_drop, Nat.add_zero]; exact hq2
                have hk1 : k + 1 < s.size := by have := (List.getElem?_eq_some_iff.1 hq2).1; rw [hl] at this; exact this
                have hsc := HC1.out
                rw [scan_at _ _ hq2] at hsc
                clear hq
                cases hrd : readOf (s.data.toList.drop (k + 1)) 0 with
                | none =>
                  rw [hrd] at hsc hHQ
                  have HZ : Hid (A = zeroHead) := Lib.hid (by rw [HA.out, hHQ]; rfl)
                  have hsc2 : ∀ w, Calls Tryd.prog 37 #[.string s, .int .i64 ((k : Int) + 1)] w fun e w' => e = .returned (.tuple #[.int .u8 0, .int .i64 0, .int .i64 4]) ∧ Below w.heap.size w w' := hsc
                  clear hsc hHQ hrd hq2 hr34
                  go_wp2_with (first
                    | (go_at_call 22; refine (HPX2 _).mono ?_; rintro e w4 ⟨rfl, rfl⟩)
                    | (go_at_call 37; refine (hsc2 _).mono ?_; rintro e w5 ⟨rfl, hB5⟩; have HF5 := Lib.hid ((hB5.block w.heap.size (by omega)).trans HFb.out); have HB5 := Lib.hid (HBb.out.trans (hB5.mono HBb.out.size)); clear hB5)
                    | (refine wpList_buildTo rfl 33 _ rfl (some 68) rfl #[.int .u8 0, .int .i64 0, .string ⟨#[]⟩] (by kernel_rfl) ?_)
                    | (refine wpList_store_rowTo rfl 33 (.tmp 2) (.tmp 68) rfl rfl w.heap.size #[.int .u8 0, .int .i64 0, .string ⟨#[]⟩] rfl rfl 33 #[.int .u8 0, .int .i64 0, .string ⟨#[]⟩] HF5.out info28s rfl (by simp [Value.oneCell']) ?_))
                  (try simp only [Exit.inBlock, Exit.then])
                  exact bodyPost_ret (v := .tuple #[.agg #[.int .u8 0, .int .i64 0, .string ⟨#[]⟩], .int .i64 0]) (results_row_int (p := 2) (u := 3) rfl _ _ w.heap.size _ rfl (setRow_heap _ _ _ _ _ _ HF5.out) rfl) rfl ⟨by rw [HZ.out]; rfl, below_setRow HB5.out (Nat.le_refl _) _⟩
                | some x =>
                  obtain ⟨K, L, m⟩ := x
                  rw [hrd] at hsc hHQ
                  have hm := readOf_len hrd
                  have hme : k + 1 + m ≤ s.size := by have := hm.2.1; rw [List.length_drop, hl] at this; omega
                  have hvl := value_at hrd hr34
                  have hvc := HC2.out (k + 1 + m) (by omega) hme
                  rw [show k + 1 + m - (k + 1) = m by omega, hvl] at hvc
                  have hsc2 : ∀ w, Calls Tryd.prog 37 #[.string s, .int .i64 ((k : Int) + 1)] w fun e w' => e = .returned (.tuple #[.int .u8 K, .int .i64 ((k + 1 + m : Nat) : Int), .int .i64 0]) ∧ Below w.heap.size w w' := hsc
                  have hvc2 : ∀ w, Calls Tryd.prog 38 #[.string (s.extract (k + 1) (k + 1 + m))] w fun e w' => e = .returned (.tuple #[.string ⟨L.toArray⟩, .int .i64 0]) ∧ Below w.heap.size w w' := hvc
                  have hLl : L.length ≤ 2000000 := by
                    have := value_len hvl (by rw [List.getElem?_take, if_pos (by have := hm.1; omega)]; exact hr34)
                    rw [List.length_take, List.length_drop, hl] at this; omega
                  have HQ : Hid (headOf s.data.toList = if L ≠ [] ∧ quoteOf L = (s.data.toList.drop (k + 1)).take m then some (⟨V, 0, ⟨L.toArray⟩⟩, s.data.toList.drop (k + 1 + m)) else none) := Lib.hid hHQ
                  have hsl := fun w => slice_str s (k + 1) (k + 1 + m) (by omega) hme ((k : Int) + 1) ((k : Int) + 1 + m) (by omega) (by omega) w
                  clear hsc hHQ hrd hq2 hr34 hm hvl hvc
                  go_upto_region 14 with (first
                    | (go_at_call 22; refine (HPX2 _).mono ?_; rintro e w4 ⟨rfl, rfl⟩)
                    | (go_at_call 37; refine (hsc2 _).mono ?_; rintro e w5 ⟨rfl, hB5⟩; have HF5 := Lib.hid ((hB5.block w.heap.size (by omega)).trans HFb.out); have HP5 := Lib.hid ((hB5.block w2.heap.size hW3s).trans HPb.out); have HB5 := Lib.hid (HBb.out.trans (hB5.mono HBb.out.size)); have hw5 : w2.heap.size < w5.heap.size := Nat.lt_of_lt_of_le hW3s hB5.size; clear hB5)
                    | (go_at_call 38; refine (hvc2 _).mono ?_; rintro e w6 ⟨rfl, hB6⟩; have HF6 := Lib.hid ((hB6.block w.heap.size (by omega)).trans HF5.out); have HP6 := Lib.hid ((hB6.block w2.heap.size hw5).trans HP5.out); have HB6 := Lib.hid (HB5.out.trans (hB6.mono HB5.out.size)); have hw6 : w2.heap.size < w6.heap.size := Nat.lt_of_lt_of_le hw5 hB6.size; clear hB6; have p2 : w6.cell? ⟨w2.heap.size, 2, none⟩ = some (.string ⟨#[]⟩) := (cell_of_row w6 w2.heap.size 2 _ 33 (0, 0) HP6.out).trans rfl; have f2 := frozen_of_row w6 w2.heap.size 2 _ 33 HP6.out))
                  have HR7 : Hid ((w6.setCell ⟨w2.heap.size, 2, none⟩ (.string ⟨L.toArray⟩)).heap[w2.heap.size]? = some (.cells #[.int .u8 V, .int .i64 0, .string ⟨L.toArray⟩] 33 (0, 0))) := Lib.hid (by
                    rw [heap_setCell_same _ _ _ _ _ _ HP6.out]; rfl)
                  have HF7 : Hid ((w6.setCell ⟨w2.heap.size, 2, none⟩ (.string ⟨L.toArray⟩)).heap[w.heap.size]? = some (.cells #[.int .u8 0, .int .i64 0, .string ⟨#[]⟩] 33 (0, 0))) := Lib.hid (by
                    rw [heap_setCell_other _ _ _ _ (by simp; omega)]; exact HF6.out)
                  have HB7 := Lib.hid (HB6.out.setCell (p := ⟨w2.heap.size, 2, none⟩) (by simp; omega) (.string ⟨L.toArray⟩))
                  have hw7 : w2.heap.size < (w6.setCell ⟨w2.heap.size, 2, none⟩ (.string ⟨L.toArray⟩)).heap.size := by simp; exact hw6
                  generalize w6.setCell ⟨w2.heap.size, 2, none⟩ (.string ⟨L.toArray⟩) = w7 at HR7 HF7 HB7 hw7 ⊢
                  have k2 : w7.cell? ⟨w2.heap.size, 2, none⟩ = some (.string ⟨L.toArray⟩) := (cell_of_row w7 w2.heap.size 2 _ 33 (0, 0) HR7.out).trans rfl
                  clear p2 f2 HF6 HP6 HB6 hw6 hw5 HF5 HP5 HB5 HFb HPb HBb hsc2 hvc2 HPX2
                  have hLt : (⟨L.toArray⟩ : ByteArray).toList = L := by rw [ByteArray.toList_eq]
                  have k0 : w7.cell? ⟨w2.heap.size, 0, none⟩ = some (.int .u8 V) := (cell_of_row w7 w2.heap.size 0 _ 33 (0, 0) HR7.out).trans rfl
                  have k1 : w7.cell? ⟨w2.heap.size, 1, none⟩ = some (.int .i64 0) := (cell_of_row w7 w2.heap.size 1 _ 33 (0, 0) HR7.out).trans rfl
                  by_cases hL0 : L = []
                  · have HZ : Hid (A = zeroHead) := Lib.hid (by rw [HA.out, HQ.out, if_neg (fun x => x.1 hL0)]; rfl)
                    have e0 : (⟨L.toArray⟩ : ByteArray).toList = [] := by rw [hLt, hL0]
                    have e1 : L.isEmpty = true := by rw [hL0]; rfl
                    have e2 : (L == []) = true := by rw [hL0]; rfl
                    clear hL0
                    go_wp2
                    first | go_quiet (fail) | fail
                    have HF8 : ∀ m, Hid ((w7.drewN m).heap[w.heap.size]? = some (.cells #[.int .u8 0, .int .i64 0, .string ⟨#[]⟩] 33 (0, 0))) := fun m => HF7
                    have HB8 := fun m => Lib.hid (below_drewN HB7.out m)
                    go_wp2_with (first
                      | (refine wpList_buildTo rfl 33 _ rfl (some 97) rfl #[.int .u8 0, .int .i64 0, .string ⟨#[]⟩] (by kernel_rfl) ?_)
                      | (refine wpList_store_rowTo rfl 33 (.tmp 2) (.tmp 97) rfl rfl w.heap.size #[.int .u8 0, .int .i64 0, .string ⟨#[]⟩] rfl rfl 33 #[.int .u8 0, .int .i64 0, .string ⟨#[]⟩] (HF8 _).out info28s rfl (by simp [Value.oneCell']) ?_))
                    (try simp only [Exit.inBlock, Exit.then])
                    exact bodyPost_ret (v := .tuple #[.agg #[.int .u8 0, .int .i64 0, .string ⟨#[]⟩], .int .i64 0]) (results_row_int (p := 2) (u := 3) rfl _ _ w.heap.size _ rfl (setRow_heap _ _ _ _ _ _ (HF8 _).out) rfl) rfl ⟨by rw [HZ.out]; rfl, below_setRow (HB8 _).out (Nat.le_refl _) _⟩
                  · have e0 : L.isEmpty = false := by simpa using hL0
                    have e2 : (L == []) = false := by simpa using hL0
                    have hqa := fun w => quote_any ⟨L.toArray⟩ (by show L.length ≤ _; omega) w
                    have hex : (s.extract (k + 1) (k + 1 + m)).toList = (s.data.toList.drop (k + 1)).take m := by rw [ByteArray.toList_eq]; simp
                    have w1 : IntKind.i64.wrap ((k : Int) + 1) = (k : Int) + 1 := by rw [IntKind.wrap_i64]; omega
                    by_cases hqq : quoteOf L = (s.data.toList.drop (k + 1)).take m
                    · have HZ : Hid (A = .tuple #[.agg #[.int .u8 V, .int .i64 0, .string ⟨L.toArray⟩], .int .i64 ((k : Int) + 1 + m)]) := Lib.hid (by
                        rw [HA.out, HQ.out, if_pos ⟨hL0, hqq⟩]
                        show Value.tuple #[.agg #[.int .u8 ((V : Nat) : Int), .int .i64 0, .string ⟨L.toArray⟩], .int .i64 ((s.size - (s.data.toList.drop (k + 1 + m)).length : Nat) : Int)] = _
                        rw [List.length_drop, hl, show s.size - (s.size - (k + 1 + m)) = k + 1 + m by omega]
                        rw [show ((k + 1 + m : Nat) : Int) = (k : Int) + 1 + m by omega])
                      have e5 : (quoteOf L != (s.extract (k + 1) (k + 1 + m)).toList) = false := by rw [hex, ← hqq]; simp
                      have e6 : (quoteOf L == (s.extract (k + 1) (k + 1 + m)).toList) = true := by rw [hex, ← hqq]; simp
                      clear hL0 hqq hex hLt
                      go_wp2
                      go_region_held3 (fun w' => w'.cell? ⟨w2.heap.size, 2, none⟩ = some (.string ⟨L.toArray⟩)) (go_keep) ((go_at_call 18; refine (hqa _).mono ?_; rintro e w8 ⟨rfl, hB8⟩; have E1 : w8.cell? ⟨w2.heap.size, 2, none⟩ = some (.string ⟨L.toArray⟩) := ((bcell hB8).1 _ _ (by first | exact hw7 | (simp; omega))).trans k2))
                      have h8 : Below w7.heap.size w7 w8 := (by first | exact hB8 | exact (Below.refl _ w7).drew.trans hB8 | exact (below_drewN (Below.refl _ w7) _).trans hB8)
                      have HF8 := Lib.hid ((h8.block w.heap.size (by omega)).trans HF7.out)
                      have HR8 := Lib.hid ((h8.block w2.heap.size hw7).trans HR7.out)
                      have HB8 := Lib.hid (HB7.out.trans (h8.mono HB7.out.size))
                      clear hB8 h8 E1 k0 k1 k2
                      have k0 : w8.cell? ⟨w2.heap.size, 0, none⟩ = some (.int .u8 V) := (cell_of_row w8 w2.heap.size 0 _ 33 (0, 0) HR8.out).trans rfl
                      have k1 : w8.cell? ⟨w2.heap.size, 1, none⟩ = some (.int .i64 0) := (cell_of_row w8 w2.heap.size 1 _ 33 (0, 0) HR8.out).trans rfl
                      have k2 : w8.cell? ⟨w2.heap.size, 2, none⟩ = some (.string ⟨L.toArray⟩) := (cell_of_row w8 w2.heap.size 2 _ 33 (0, 0) HR8.out).trans rfl
                      go_wp2_with (refine wpList_store_rowTo rfl 33 (.tmp 2) (.tmp 98) rfl rfl w.heap.size #[.int .u8 V, .int .i64 0, .string ⟨L.toArray⟩] rfl rfl 33 #[.int .u8 0, .int .i64 0, .string ⟨#[]⟩] HF8.out info28s rfl (by simp [Value.oneCell']) ?_)
                      (try simp only [Exit.inBlock, Exit.then])
                      exact bodyPost_ret (v := .tuple #[.agg #[.int .u8 V, .int .i64 0, .string ⟨L.toArray⟩], .int .i64 ((k : Int) + 1 + m)]) (results_row_int (p := 2) (u := 3) rfl _ _ w.heap.size _ rfl (setRow_heap _ _ _ _ _ _ HF8.out) rfl) rfl ⟨by rw [HZ.out], below_setRow HB8.out (Nat.le_refl _) _⟩
                    · have HZ : Hid (A = zeroHead) := Lib.hid (by rw [HA.out, HQ.out, if_neg (fun x => hqq x.2)]; rfl)
                      have e5 : (quoteOf L != (s.extract (k + 1) (k + 1 + m)).toList) = true := by rw [hex]; simpa using hqq
                      have e6 : (quoteOf L == (s.extract (k + 1) (k + 1 + m)).toList) = false := by rw [hex]; simpa using hqq
                      clear hL0 hqq hex hLt
                      go_wp2
                      go_region_held3 (fun w' => w'.cell? ⟨w2.heap.size, 2, none⟩ = some (.string ⟨L.toArray⟩)) (go_keep) ((go_at_call 18; refine (hqa _).mono ?_; rintro e w8 ⟨rfl, hB8⟩; have E1 : w8.cell? ⟨w2.heap.size, 2, none⟩ = some (.string ⟨L.toArray⟩) := ((bcell hB8).1 _ _ (by first | exact hw7 | (simp; omega))).trans k2))
                      have h8 : Below w7.heap.size w7 w8 := (by first | exact hB8 | exact (Below.refl _ w7).drew.trans hB8 | exact (below_drewN (Below.refl _ w7) _).trans hB8)
                      have HF8 := Lib.hid ((h8.block w.heap.size (by omega)).trans HF7.out)
                      have HR8 := Lib.hid ((h8.block w2.heap.size hw7).trans HR7.out)
                      have HB8 := Lib.hid (HB7.out.trans (h8.mono HB7.out.size))
                      clear hB8 h8 E1 k0 k1 k2
                      go_wp2_with (first
                        | (refine wpList_buildTo rfl 33 _ rfl (some 97) rfl #[.int .u8 0, .int .i64 0, .string ⟨#[]⟩] (by kernel_rfl) ?_)
                        | (refine wpList_store_rowTo rfl 33 (.tmp 2) (.tmp 97) rfl rfl w.heap.size #[.int .u8 0, .int .i64 0, .string ⟨#[]⟩] rfl rfl 33 #[.int .u8 0, .int .i64 0, .string ⟨#[]⟩] HF8.out info28s rfl (by simp [Value.oneCell']) ?_))
                      (try simp only [Exit.inBlock, Exit.then])
                      exact bodyPost_ret (v := .tuple #[.agg #[.int .u8 0, .int .i64 0, .string ⟨#[]⟩], .int .i64 0]) (results_row_int (p := 2) (u := 3) rfl _ _ w.heap.size _ rfl (setRow_heap _ _ _ _ _ _ HF8.out) rfl) rfl ⟨by rw [HZ.out]; rfl, below_setRow HB8.out (Nat.le_refl _) _⟩
              · rw [decide_eq_false hq] at HPX2
                have HZ : Hid (A = .tuple #[.agg #[.int .u8 V, .int .i64 0, .string ⟨#[]⟩], .int .i64 k]) := Lib.hid (by
                  rw [HA.out, HH2.out, if_neg hq]
                  show Value.tuple #[.agg #[.int .u8 ((V : Nat) : Int), .int .i64 0, .string ⟨#[]⟩], .int .i64 ((s.size - (s.data.toList.drop k).length : Nat) : Int)] = _
                  rw [List.length_drop, hl, show s.size - (s.size - k) = k by omega])
                have k0 : W3.cell? ⟨w2.heap.size, 0, none⟩ = some (.int .u8 V) := (cell_of_row W3 w2.heap.size 0 _ 33 (0, 0) HPb.out).trans rfl
                have k1 : W3.cell? ⟨w2.heap.size, 1, none⟩ = some (.int .i64 0) := (cell_of_row W3 w2.heap.size 1 _ 33 (0, 0) HPb.out).trans rfl
                have k2 : W3.cell? ⟨w2.heap.size, 2, none⟩ = some (.string ⟨#[]⟩) := (cell_of_row W3 w2.heap.size 2 _ 33 (0, 0) HPb.out).trans rfl
                clear hq
                go_wp2_with (first
                  | (go_at_call 22; refine (HPX2 _).mono ?_; rintro e w4 ⟨rfl, rfl⟩)
                  | (refine wpList_store_rowTo rfl 33 (.tmp 2) (.tmp 56) rfl rfl w.heap.size #[.int .u8 V, .int .i64 0, .string ⟨#[]⟩] rfl rfl 33 #[.int .u8 0, .int .i64 0, .string ⟨#[]⟩] HFb.out info28s rfl (by simp [Value.oneCell']) ?_))
                (try simp only [Exit.inBlock, Exit.then])
                exact bodyPost_ret (v := .tuple #[.agg #[.int .u8 V, .int .i64 0, .string ⟨#[]⟩], .int .i64 k]) (results_row_int (p := 2) (u := 3) rfl _ _ w.heap.size _ rfl (setRow_heap _ _ _ _ _ _ HFb.out) rfl) rfl ⟨by rw [HZ.out], below_setRow HBb.out (Nat.le_refl _) _⟩
        · have hc : ∀ w, Errs w → Calls Tryd.prog 36 #[.string (s.extract 0 k), .int .i64 10, .int .i64 8] w fun e w' => (∃ (z : Int) (p : Value), e = .returned (.tuple #[.int .u64 z, .iface 91 p])) ∧ Below w.heap.size w w' := fun w hE => (HPD.out w hE).mono fun e w' ⟨a, b⟩ => ⟨by unfold parseV at a; rwa [if_neg hok] at a, b⟩
          have HZ : Hid (A = zeroHead) := Lib.hid (by rw [HA.out, HH.out, if_neg (fun x => hok ⟨x.1, x.2.1⟩)]; rfl)
          clear hok
          go_wp2_with (first
            | (go_at_call 36; refine (hc _ (errs_below HEE.out ((Below.refl _ w).alloc (Nat.le_refl _) _))).mono ?_; rintro e w2 ⟨⟨z, p, rfl⟩, hB2⟩; have HF2 := Lib.hid ((hB2.block w.heap.size (by simp)).trans HF0.out); have HB2 := Lib.hid (HB0.out.trans (hB2.mono HB0.out.size)); clear hB2)
            | (refine wpList_buildTo rfl 33 _ rfl (some 47) rfl #[.int .u8 0, .int .i64 0, .string ⟨#[]⟩] (by kernel_rfl) ?_)
            | (refine wpList_store_rowTo rfl 33 (.tmp 2) (.tmp 47) rfl rfl w.heap.size #[.int .u8 0, .int .i64 0, .string ⟨#[]⟩] rfl rfl 33 #[.int .u8 0, .int .i64 0, .string ⟨#[]⟩] HF2.out info28s rfl (by simp [Value.oneCell']) ?_))
          (try simp only [Exit.inBlock, Exit.then])
          exact bodyPost_ret (v := .tuple #[.agg #[.int .u8 0, .int .i64 0, .string ⟨#[]⟩], .int .i64 0]) (results_row_int (p := 2) (u := 3) rfl _ _ w.heap.size _ rfl (setRow_heap _ _ _ _ _ _ HF2.out) rfl) rfl ⟨by rw [HZ.out]; rfl, below_setRow HB2.out (Nat.le_refl _) _⟩
      · go_upto_region 4 with fail
        clear HD HST
        have HF0 : Hid ((w.alloc (.cells #[.int .u8 0, .int .i64 0, .string ⟨#[]⟩] 33)).heap[w.heap.size]? = some (.cells #[.int .u8 0, .int .i64 0, .string ⟨#[]⟩] 33 (0, 0))) := Lib.hid (heap_alloc_new w _)
        have HB0 : Hid (Below w.heap.size w (w.alloc (.cells #[.int .u8 0, .int .i64 0, .string ⟨#[]⟩] 33))) := Lib.hid ((Below.refl _ w).alloc (Nat.le_refl _) _)
        by_cases hok : s.data.toList.take k ≠ [] ∧ valD (s.data.toList.take k) ≤ 255
        · obtain ⟨hok1, hok2⟩ := hok
          have hk0 : 0 < k := by
            rcases Nat.eq_zero_or_pos k with h | h
            · exfalso; apply hok1; rw [h]; rfl
            · exact h
          have hs0 : 0 < s.size := by omega
          have h10 : (0 : Int) < s.size := by omega
          obtain ⟨V, hV⟩ : ∃ V, V = valD (s.data.toList.take k) := ⟨_, rfl⟩
          have hc : ∀ w, Errs w → Calls Tryd.prog 36 #[.string (s.extract 0 k), .int .i64 10, .int .i64 8] w fun e w' => e = .returned (.tuple #[.int .u64 V, .nilIface]) ∧ Below w.heap.size w w' := fun w hE => (HPD.out w hE).mono fun e w' ⟨a, b⟩ => ⟨by unfold parseV at a; rw [if_pos ⟨hok1, hok2⟩, ← hV] at a; exact a, b⟩
          rw [← hV] at hok2
          have ha0 := at_of s 0 hs0
          by_cases h48 : s[0] = 48 ∧ 1 < k
          · have HZ : Hid (A = zeroHead) := Lib.hid (by
              rw [HA.out, HH.out, if_neg]; rfl
              rintro ⟨_, _, x⟩
              have hd1 := x (by rw [ha0, h48.1])
              omega)
            obtain ⟨h481, h482⟩ := h48
            have hb : (s[0].toNat : Int) = 48 := by rw [h481]; rfl
            have h1k : (1 : Int) < k := by omega
            clear hok1 h481 ha0 hV
            go_wp2_with (first
              | (go_at_call 36; refine (hc _ (errs_below HEE.out ((Below.refl _ w).alloc (Nat.le_refl _) _))).mono ?_; rintro e w2 ⟨rfl, hB2⟩; have HF2 := Lib.hid ((hB2.block w.heap.size (by simp)).trans HF0.out); have HB2 := Lib.hid (HB0.out.trans (hB2.mono HB0.out.size)); clear hB2)
              | (refine wpList_buildTo rfl 33 _ rfl (some 47) rfl #[.int .u8 0, .int .i64 0, .string ⟨#[]⟩] (by kernel_rfl) ?_)
              | (refine wpList_store_rowTo rfl 33 (.tmp 2) (.tmp 47) rfl rfl w.heap.size #[.int .u8 0, .int .i64 0, .string ⟨#[]⟩] rfl rfl 33 #[.int .u8 0, .int .i64 0, .string ⟨#[]⟩] HF2.out info28s rfl (by simp [Value.oneCell']) ?_))
            (try simp only [Exit.inBlock, Exit.then])
            exact bodyPost_ret (v := .tuple #[.agg #[.int .u8 0, .int .i64 0, .string ⟨#[]⟩], .int .i64 0]) (results_row_int (p := 2) (u := 3) rfl _ _ w.heap.size _ rfl (setRow_heap _ _ _ _ _ _ HF2.out) rfl) rfl ⟨by rw [HZ.out]; rfl, below_setRow HB2.out (Nat.le_refl _) _⟩
          · have hA2 : s.data.toList.take k ≠ [] ∧ V ≤ 255 ∧ (s.data.toList[0]? = some 48 → k = 1) := ⟨hok1, hok2, fun x => by
              rw [ha0] at x
              injection x with x
              have : ¬ 1 < k := fun y => h48 ⟨x, y⟩
              omega⟩
            have hHH := HH.out
            rw [← hV, if_pos hA2] at hHH
            have HH2 := Lib.hid hHH
            have hcase : (s[0].toNat : Int) ≠ 48 ∨ ((s[0].toNat : Int) = 48 ∧ ¬ (1 : Int) < k) := by
              by_cases h : s[0] = 48
              · exact .inr ⟨by rw [h]; rfl, fun y => h48 ⟨h, by omega⟩⟩
              · exact .inl (fun e => h (UInt8.toNat_inj.1 (by have : (48 : UInt8).toNat = 48 := rfl; omega)))
            clear hok1 h48 ha0 hV hA2 hHH
            have hq8 : ((s[0].toNat : Int) == 48) = true ∨ ((s[0].toNat : Int) == 48) = false := by cases ((s[0].toNat : Int) == 48) <;> simp
            rcases hcase with hb | ⟨hb, h1k⟩
            all_goals
              go_upto_region 8 with (go_at_call 36; refine (hc _ (errs_below HEE.out ((Below.refl _ w).alloc (Nat.le_refl _) _))).mono ?_; rintro e w2 ⟨rfl, hB2⟩; have HF2 := Lib.hid ((hB2.block w.heap.size (by simp)).trans HF0.out); have HB2 := Lib.hid (HB0.out.trans (hB2.mono HB0.out.size)); clear hB2)
              have HFb : Hid ((w2.alloc (.cells #[.int .u8 V, .int .i64 0, .string ⟨#[]⟩] 33)).heap[w.heap.size]? = some (.cells #[.int .u8 0, .int .i64 0, .string ⟨#[]⟩] 33 (0, 0))) := Lib.hid (keeps_alloc0 w2 _ _ _ _ _ HF2.out)
              have HBb := Lib.hid (HB2.out.alloc HB2.out.size (.cells #[.int .u8 V, .int .i64 0, .string ⟨#[]⟩] 33))
              have HPb : Hid ((w2.alloc (.cells #[.int .u8 V, .int .i64 0, .string ⟨#[]⟩] 33)).heap[w2.heap.size]? = some (.cells #[.int .u8 V, .int .i64 0, .string ⟨#[]⟩] 33 (0, 0))) := Lib.hid (heap_alloc_new w2 _)
              have hwlt : w.heap.size < w2.heap.size := (Array.getElem?_eq_some_iff.1 HF2.out).1
              have HPX2 := HPX.out
              obtain ⟨W3, hW3⟩ : ∃ W3, W3 = w2.alloc (.cells #[.int .u8 V, .int .i64 0, .string ⟨#[]⟩] 33) := ⟨_, rfl⟩
              have hW3s : w2.heap.size < W3.heap.size := by rw [hW3]; simp
              rw [← hW3] at HFb HBb HPb ⊢
              clear hW3 hc HF2 HB2 HF0 HB0
              by_cases hq : s.data.toList[k]? = some 32 ∧ s.data.toList[k + 1]? = some 34
              · rw [decide_eq_true hq] at HPX2
                have hq2 := hq.2
                have hHQ := HH2.out
                rw [if_pos hq] at hHQ
                have hr34 : (s.data.toList.drop (k + 1))[0]? = some 34 := by rw [List.getElem?_drop, Nat.add_zero]; exact hq2
                have hk1 : k + 1 < s.size := by have := (List.getElem?_eq_some_iff.1 hq2).1; rw [hl] at this; exact this
                have hsc := HC1.out
                rw [scan_at _ _ hq2] at hsc
                clear hq
                cases hrd : readOf (s.data.toList.drop (k + 1)) 0 with
                | none =>
                  rw [hrd] at hsc hHQ
                  have HZ : Hid (A = zeroHead) := Lib.hid (by rw [HA.out, hHQ]; rfl)
                  have hsc2 : ∀ w, Calls Tryd.prog 37 #[.string s, .int .i64 ((k : Int) + 1)] w fun e w' => e = .returned (.tuple #[.int .u8 0, .int .i64 0, .int .i64 4]) ∧ Below w.heap.size w w' := hsc
                  clear hsc hHQ hrd hq2 hr34
                  go_wp2_with (first
                    | (go_at_call 22; refine (HPX2 _).mono ?_; rintro e w4 ⟨rfl, rfl⟩)
                    | (go_at_call 37; refine (hsc2 _).mono ?_; rintro e w5 ⟨rfl, hB5⟩; have HF5 := Lib.hid ((hB5.block w.heap.size (by omega)).trans HFb.out); have HB5 := Lib.hid (HBb.out.trans (hB5.mono HBb.out.size)); clear hB5)
                    | (refine wpList_buildTo rfl 33 _ rfl (some 68) rfl #[.int .u8 0, .int .i64 0, .string ⟨#[]⟩] (by kernel_rfl) ?_)
                    | (refine wpList_store_rowTo rfl 33 (.tmp 2) (.tmp 68) rfl rfl w.heap.size #[.int .u8 0, .int .i64 0, .string ⟨#[]⟩] rfl rfl 33 #[.int .u8 0, .int .i64 0, .string ⟨#[]⟩] HF5.out info28s rfl (by simp [Value.oneCell']) ?_))
                  (try simp only [Exit.inBlock, Exit.then])
                  exact bodyPost_ret (v := .tuple #[.agg #[.int .u8 0, .int .i64 0, .string ⟨#[]⟩], .int .i64 0]) (results_row_int (p := 2) (u := 3) rfl _ _ w.heap.size _ rfl (setRow_heap _ _ _ _ _ _ HF5.out) rfl) rfl ⟨by rw [HZ.out]; rfl, below_setRow HB5.out (Nat.le_refl _) _⟩
                | some x =>
                  obtain ⟨K, L, m⟩ := x
                  rw [hrd] at hsc hHQ
                  have hm := readOf_len hrd
                  have hme : k + 1 + m ≤ s.size := by have := hm.2.1; rw [List.length_drop, hl] at this; omega
                  have hvl := value_at hrd hr34
                  have hvc := HC2.out (k + 1 + m) (by omega) hme
                  rw [show k + 1 + m - (k + 1) = m by omega, hvl] at hvc
                  have hsc2 : ∀ w, Calls Tryd.prog 37 #[.string s, .int .i64 ((k : Int) + 1)] w fun e w' => e = .returned (.tuple #[.int .u8 K, .int .i64 ((k + 1 + m : Nat) : Int), .int .i64 0]) ∧ Below w.heap.size w w' := hsc
                  have hvc2 : ∀ w, Calls Tryd.prog 38 #[.string (s.extract (k + 1) (k + 1 + m))] w fun e w' => e = .returned (.tuple #[.string ⟨L.toArray⟩, .int .i64 0]) ∧ Below w.heap.size w w' := hvc
                  have hLl : L.length ≤ 2000000 := by
                    have := value_len hvl (by rw [List.getElem?_take, if_pos (by have := hm.1; omega)]; exact hr34)
                    rw [List.length_take, List.length_drop, hl] at this; omega
                  have HQ : Hid (headOf s.data.toList = if L ≠ [] ∧ quoteOf L = (s.data.toList.drop (k + 1)).take m then some (⟨V, 0, ⟨L.toArray⟩⟩, s.data.toList.drop (k + 1 + m)) else none) := Lib.hid hHQ
                  have hsl := fun w => slice_str s (k + 1) (k + 1 + m) (by omega) hme ((k : Int) + 1) ((k : Int) + 1 + m) (by omega) (by omega) w
                  clear hsc hHQ hrd hq2 hr34 hm hvl hvc
                  go_upto_region 14 with (first
                    | (go_at_call 22; refine (HPX2 _).mono ?_; rintro e w4 ⟨rfl, rfl⟩)
                    | (go_at_call 37; refine (hsc2 _).mono ?_; rintro e w5 ⟨rfl, hB5⟩; have HF5 := Lib.hid ((hB5.block w.heap.size (by omega)).trans HFb.out); have HP5 := Lib.hid ((hB5.block w2.heap.size hW3s).trans HPb.out); have HB5 := Lib.hid (HBb.out.trans (hB5.mono HBb.out.size)); have hw5 : w2.heap.size < w5.heap.size := Nat.lt_of_lt_of_le hW3s hB5.size; clear hB5)
                    | (go_at_call 38; refine (hvc2 _).mono ?_; rintro e w6 ⟨rfl, hB6⟩; have HF6 := Lib.hid ((hB6.block w.heap.size (by omega)).trans HF5.out); have HP6 := Lib.hid ((hB6.block w2.heap.size hw5).trans HP5.out); have HB6 := Lib.hid (HB5.out.trans (hB6.mono HB5.out.size)); have hw6 : w2.heap.size < w6.heap.size := Nat.lt_of_lt_of_le hw5 hB6.size; clear hB6; have p2 : w6.cell? ⟨w2.heap.size, 2, none⟩ = some (.string ⟨#[]⟩) := (cell_of_row w6 w2.heap.size 2 _ 33 (0, 0) HP6.out).trans rfl; have f2 := frozen_of_row w6 w2.heap.size 2 _ 33 HP6.out))
                  have HR7 : Hid ((w6.setCell ⟨w2.heap.size, 2, none⟩ (.string ⟨L.toArray⟩)).heap[w2.heap.size]? = some (.cells #[.int .u8 V, .int .i64 0, .string ⟨L.toArray⟩] 33 (0, 0))) := Lib.hid (by
                    rw [heap_setCell_same _ _ _ _ _ _ HP6.out]; rfl)
                  have HF7 : Hid ((w6.setCell ⟨w2.heap.size, 2, none⟩ (.string ⟨L.toArray⟩)).heap[w.heap.size]? = some (.cells #[.int .u8 0, .int .i64 0, .string ⟨#[]⟩] 33 (0, 0))) := Lib.hid (by
                    rw [heap_setCell_other _ _ _ _ (by simp; omega)]; exact HF6.out)
                  have HB7 := Lib.hid (HB6.out.setCell (p := ⟨w2.heap.size, 2, none⟩) (by simp; omega) (.string ⟨L.toArray⟩))
                  have hw7 : w2.heap.size < (w6.setCell ⟨w2.heap.size, 2, none⟩ (.string ⟨L.toArray⟩)).heap.size := by simp; exact hw6
                  generalize w6.setCell ⟨w2.heap.size, 2, none⟩ (.string ⟨L.toArray⟩) = w7 at HR7 HF7 HB7 hw7 ⊢
                  have k2 : w7.cell? ⟨w2.heap.size, 2, none⟩ = some (.string ⟨L.toArray⟩) := (cell_of_row w7 w2.heap.size 2 _ 33 (0, 0) HR7.out).trans rfl
                  clear p2 f2 HF6 HP6 HB6 hw6 hw5 HF5 HP5 HB5 HFb HPb HBb hsc2 hvc2 HPX2
                  have hLt : (⟨L.toArray⟩ : ByteArray).toList = L := by rw [ByteArray.toList_eq]
                  have k0 : w7.cell? ⟨w2.heap.size, 0, none⟩ = some (.int .u8 V) := (cell_of_row w7 w2.heap.size 0 _ 33 (0, 0) HR7.out).trans rfl
                  have k1 : w7.cell? ⟨w2.heap.size, 1, none⟩ = some (.int .i64 0) := (cell_of_row w7 w2.heap.size 1 _ 33 (0, 0) HR7.out).trans rfl
                  by_cases hL0 : L = []
                  · have HZ : Hid (A = zeroHead) := Lib.hid (by rw [HA.out, HQ.out, if_neg (fun x => x.1 hL0)]; rfl)
                    have e0 : (⟨L.toArray⟩ : ByteArray).toList = [] := by rw [hLt, hL0]
                    have e1 : L.isEmpty = true := by rw [hL0]; rfl
                    have e2 : (L == []) = true := by rw [hL0]; rfl
                    clear hL0
                    go_wp2
                    first | go_quiet (fail) | fail
                    have HF8 : ∀ m, Hid ((w7.drewN m).heap[w.heap.size]? = some (.cells #[.int .u8 0, .int .i64 0, .string ⟨#[]⟩] 33 (0, 0))) := fun m => HF7
                    have HB8 := fun m => Lib.hid (below_drewN HB7.out m)
                    go_wp2_with (first
                      | (refine wpList_buildTo rfl 33 _ rfl (some 97) rfl #[.int .u8 0, .int .i64 0, .string ⟨#[]⟩] (by kernel_rfl) ?_)
                      | (refine wpList_store_rowTo rfl 33 (.tmp 2) (.tmp 97) rfl rfl w.heap.size #[.int .u8 0, .int .i64 0, .string ⟨#[]⟩] rfl rfl 33 #[.int .u8 0, .int .i64 0, .string ⟨#[]⟩] (HF8 _).out info28s rfl (by simp [Value.oneCell']) ?_))
                    (try simp only [Exit.inBlock, Exit.then])
                    exact bodyPost_ret (v := .tuple #[.agg #[.int .u8 0, .int .i64 0, .string ⟨#[]⟩], .int .i64 0]) (results_row_int (p := 2) (u := 3) rfl _ _ w.heap.size _ rfl (setRow_heap _ _ _ _ _ _ (HF8 _).out) rfl) rfl ⟨by rw [HZ.out]; rfl, below_setRow (HB8 _).out (Nat.le_refl _) _⟩
                  · have e0 : L.isEmpty = false := by simpa using hL0
                    have e2 : (L == []) = false := by simpa using hL0
                    have hqa := fun w => quote_any ⟨L.toArray⟩ (by show L.length ≤ _; omega) w
                    have hex : (s.extract (k + 1) (k + 1 + m)).toList = (s.data.toList.drop (k + 1)).take m := by rw [ByteArray.toList_eq]; simp
                    have w1 : IntKind.i64.wrap ((k : Int) + 1) = (k : Int) + 1 := by rw [IntKind.wrap_i64]; omega
                    by_cases hqq : quoteOf L = (s.data.toList.drop (k + 1)).take m
                    · have HZ : Hid (A = .tuple #[.agg #[.int .u8 V, .int .i64 0, .string ⟨L.toArray⟩], .int .i64 ((k : Int) + 1 + m)]) := Lib.hid (by
                        rw [HA.out, HQ.out, if_pos ⟨hL0, hqq⟩]
                        show Value.tuple #[.agg #[.int .u8 ((V : Nat) : Int), .int .i64 0, .string ⟨L.toArray⟩], .int .i64 ((s.size - (s.data.toList.drop (k + 1 + m)).length : Nat) : Int)] = _
                        rw [List.length_drop, hl, show s.size - (s.size - (k + 1 + m)) = k + 1 + m by omega]
                        rw [show ((k + 1 + m : Nat) : Int) = (k : Int) + 1 + m by omega])
                      have e5 : (quoteOf L != (s.extract (k + 1) (k + 1 + m)).toList) = false := by rw [hex, ← hqq]; simp
                      have e6 : (quoteOf L == (s.extract (k + 1) (k + 1 + m)).toList) = true := by rw [hex, ← hqq]; simp
                      clear hL0 hqq hex hLt
                      go_wp2
                      go_region_held3 (fun w' => w'.cell? ⟨w2.heap.size, 2, none⟩ = some (.string ⟨L.toArray⟩)) (go_keep) ((go_at_call 18; refine (hqa _).mono ?_; rintro e w8 ⟨rfl, hB8⟩; have E1 : w8.cell? ⟨w2.heap.size, 2, none⟩ = some (.string ⟨L.toArray⟩) := ((bcell hB8).1 _ _ (by first | exact hw7 | (simp; omega))).trans k2))
                      have h8 : Below w7.heap.size w7 w8 := (by first | exact hB8 | exact (Below.refl _ w7).drew.trans hB8 | exact (below_drewN (Below.refl _ w7) _).trans hB8)
                      have HF8 := Lib.hid ((h8.block w.heap.size (by omega)).trans HF7.out)
                      have HR8 := Lib.hid ((h8.block w2.heap.size hw7).trans HR7.out)
                      have HB8 := Lib.hid (HB7.out.trans (h8.mono HB7.out.size))
                      clear hB8 h8 E1 k0 k1 k2
                      have k0 : w8.cell? ⟨w2.heap.size, 0, none⟩ = some (.int .u8 V) := (cell_of_row w8 w2.heap.size 0 _ 33 (0, 0) HR8.out).trans rfl
                      have k1 : w8.cell? ⟨w2.heap.size, 1, none⟩ = some (.int .i64 0) := (cell_of_row w8 w2.heap.size 1 _ 33 (0, 0) HR8.out).trans rfl
                      have k2 : w8.cell? ⟨w2.heap.size, 2, none⟩ = some (.string ⟨L.toArray⟩) := (cell_of_row w8 w2.heap.size 2 _ 33 (0, 0) HR8.out).trans rfl
                      go_wp2_with (refine wpList_store_rowTo rfl 33 (.tmp 2) (.tmp 98) rfl rfl w.heap.size #[.int .u8 V, .int .i64 0, .string ⟨L.toArray⟩] rfl rfl 33 #[.int .u8 0, .int .i64 0, .string ⟨#[]⟩] HF8.out info28s rfl (by simp [Value.oneCell']) ?_)
                      (try simp only [Exit.inBlock, Exit.then])
                      exact bodyPost_ret (v := .tuple #[.agg #[.int .u8 V, .int .i64 0, .string ⟨L.toArray⟩], .int .i64 ((k : Int) + 1 + m)]) (results_row_int (p := 2) (u := 3) rfl _ _ w.heap.size _ rfl (setRow_heap _ _ _ _ _ _ HF8.out) rfl) rfl ⟨by rw [HZ.out], below_setRow HB8.out (Nat.le_refl _) _⟩
                    · have HZ : Hid (A = zeroHead) := Lib.hid (by rw [HA.out, HQ.out, if_neg (fun x => hqq x.2)]; rfl)
                      have e5 : (quoteOf L != (s.extract (k + 1) (k + 1 + m)).toList) = true := by rw [hex]; simpa using hqq
                      have e6 : (quoteOf L == (s.extract (k + 1) (k + 1 + m)).toList) = false := by rw [hex]; simpa using hqq
                      clear hL0 hqq hex hLt
                      go_wp2
                      go_region_held3 (fun w' => w'.cell? ⟨w2.heap.size, 2, none⟩ = some (.string ⟨L.toArray⟩)) (go_keep) ((go_at_call 18; refine (hqa _).mono ?_; rintro e w8 ⟨rfl, hB8⟩; have E1 : w8.cell? ⟨w2.heap.size, 2, none⟩ = some (.string ⟨L.toArray⟩) := ((bcell hB8).1 _ _ (by first | exact hw7 | (simp; omega))).trans k2))
                      have h8 : Below w7.heap.size w7 w8 := (by first | exact hB8 | exact (Below.refl _ w7).drew.trans hB8 | exact (below_drewN (Below.refl _ w7) _).trans hB8)
                      have HF8 := Lib.hid ((h8.block w.heap.size (by omega)).trans HF7.out)
                      have HR8 := Lib.hid ((h8.block w2.heap.size hw7).trans HR7.out)
                      have HB8 := Lib.hid (HB7.out.trans (h8.mono HB7.out.size))
                      clear hB8 h8 E1 k0 k1 k2
                      go_wp2_with (first
                        | (refine wpList_buildTo rfl 33 _ rfl (some 97) rfl #[.int .u8 0, .int .i64 0, .string ⟨#[]⟩] (by kernel_rfl) ?_)
                        | (refine wpList_store_rowTo rfl 33 (.tmp 2) (.tmp 97) rfl rfl w.heap.size #[.int .u8 0, .int .i64 0, .string ⟨#[]⟩] rfl rfl 33 #[.int .u8 0, .int .i64 0, .string ⟨#[]⟩] HF8.out info28s rfl (by simp [Value.oneCell']) ?_))
                      (try simp only [Exit.inBlock, Exit.then])
                      exact bodyPost_ret (v := .tuple #[.agg #[.int .u8 0, .int .i64 0, .string ⟨#[]⟩], .int .i64 0]) (results_row_int (p := 2) (u := 3) rfl _ _ w.heap.size _ rfl (setRow_heap _ _ _ _ _ _ HF8.out) rfl) rfl ⟨by rw [HZ.out]; rfl, below_setRow HB8.out (Nat.le_refl _) _⟩
              · rw [decide_eq_false hq] at HPX2
                have HZ : Hid (A = .tuple #[.agg #[.int .u8 V, .int .i64 0, .string ⟨#[]⟩], .int .i64 k]) := Lib.hid (by
                  rw [HA.out, HH2.out, if_neg hq]
                  show Value.tuple #[.agg #[.int .u8 ((V : Nat) : Int), .int .i64 0, .string ⟨#[]⟩], .int .i64 ((s.size - (s.data.toList.drop k).length : Nat) : Int)] = _
                  rw [List.length_drop, hl, show s.size - (s.size - k) = k by omega])
                have k0 : W3.cell? ⟨w2.heap.size, 0, none⟩ = some (.int .u8 V) := (cell_of_row W3 w2.heap.size 0 _ 33 (0, 0) HPb.out).trans rfl
                have k1 : W3.cell? ⟨w2.heap.size, 1, none⟩ = some (.int .i64 0) := (cell_of_row W3 w2.heap.size 1 _ 33 (0, 0) HPb.out).trans rfl
                have k2 : W3.cell? ⟨w2.heap.size, 2, none⟩ = some (.string ⟨#[]⟩) := (cell_of_row W3 w2.heap.size 2 _ 33 (0, 0) HPb.out).trans rfl
                clear hq
                go_wp2_with (first
                  | (go_at_call 22; refine (HPX2 _).mono ?_; rintro e w4 ⟨rfl, rfl⟩)
                  | (refine wpList_store_rowTo rfl 33 (.tmp 2) (.tmp 56) rfl rfl w.heap.size #[.int .u8 V, .int .i64 0, .string ⟨#[]⟩] rfl rfl 33 #[.int .u8 0, .int .i64 0, .string ⟨#[]⟩] HFb.out info28s rfl (by simp [Value.oneCell']) ?_))
                (try simp only [Exit.inBlock, Exit.then])
                exact bodyPost_ret (v := .tuple #[.agg #[.int .u8 V, .int .i64 0, .string ⟨#[]⟩], .int .i64 k]) (results_row_int (p := 2) (u := 3) rfl _ _ w.heap.size _ rfl (setRow_heap _ _ _ _ _ _ HFb.out) rfl) rfl ⟨by rw [HZ.out], below_setRow HBb.out (Nat.le_refl _) _⟩
        · have hc : ∀ w, Errs w → Calls Tryd.prog 36 #[.string (s.extract 0 k), .int .i64 10, .int .i64 8] w fun e w' => (∃ (z : Int) (p : Value), e = .returned (.tuple #[.int .u64 z, .iface 91 p])) ∧ Below w.heap.size w w' := fun w hE => (HPD.out w hE).mono fun e w' ⟨a, b⟩ => ⟨by unfold parseV at a; rwa [if_neg hok] at a, b⟩
          have HZ : Hid (A = zeroHead) := Lib.hid (by rw [HA.out, HH.out, if_neg (fun x => hok ⟨x.1, x.2.1⟩)]; rfl)
          clear hok
          go_wp2_with (first
            | (go_at_call 36; refine (hc _ (errs_below HEE.out ((Below.refl _ w).alloc (Nat.le_refl _) _))).mono ?_; rintro e w2 ⟨⟨z, p, rfl⟩, hB2⟩; have HF2 := Lib.hid ((hB2.block w.heap.size (by simp)).trans HF0.out); have HB2 := Lib.hid (HB0.out.trans (hB2.mono HB0.out.size)); clear hB2)
            | (refine wpList_buildTo rfl 33 _ rfl (some 47) rfl #[.int .u8 0, .int .i64 0, .string ⟨#[]⟩] (by kernel_rfl) ?_)
            | (refine wpList_store_rowTo rfl 33 (.tmp 2) (.tmp 47) rfl rfl w.heap.size #[.int .u8 0, .int .i64 0, .string ⟨#[]⟩] rfl rfl 33 #[.int .u8 0, .int .i64 0, .string ⟨#[]⟩] HF2.out info28s rfl (by simp [Value.oneCell']) ?_))
          (try simp only [Exit.inBlock, Exit.then])
          exact bodyPost_ret (v := .tuple #[.agg #[.int .u8 0, .int .i64 0, .string ⟨#[]⟩], .int .i64 0]) (results_row_int (p := 2) (u := 3) rfl _ _ w.heap.size _ rfl (setRow_heap _ _ _ _ _ _ HF2.out) rfl) rfl ⟨by rw [HZ.out]; rfl, below_setRow HB2.out (Nat.le_refl _) _⟩
end Go.Proofs.YtoffjpgobhcipaaDoor.Trm
