/-
  Layer 6: contract of the reader's say.
-/
import Derived.Test.YtpbkdgbmnffooaaB
import Derived.Lib.AppendStr
namespace Go.Proofs.Ytpbkdgbmnffooaa
open Go.ChangeShapes Go.WideShapes Go.ChangeAt Go.RowKit

theorem info5 : (Try.prog.info? 5).map (fun i => (i.zero, i.size, i.bytes)) = some (some (.int .u8 0), 1, 1) := by kernel_rfl
theorem one_new (w : World) (x : Value) (t : TypeId) : ∀ j u, [x][j]? = some u → (w.alloc (.cells #[x] t)).cell? ((⟨w.heap.size, 0, none⟩ : Addr).add j) = some u := by
  intro j u hj
  match j, hj with
  | 0, hj => simp at hj; subst hj; simp [Addr.add]
  | j + 1, hj => simp at hj
theorem bvals_len (l : List UInt8) : (bvals l).length = l.length := by simp [bvals]
theorem bvals_app (a b : List UInt8) : bvals (a ++ b) = bvals a ++ bvals b := by simp [bvals]
theorem strCells_eq (s : ByteArray) : Lib.strCells s = bvals s.data.toList := by simp [Lib.strCells, bvals]
theorem Rd.alloc {w : World} {b : Nat} {s : ByteArray} {k : Nat} {v : Value} {T : List UInt8} (h : Rd w b s k v T) (o : Obj) : Rd (w.alloc o) b s k v T := by
  have hl := h.lt
  refine ⟨?_, h.own.alloc o, h.hk⟩
  show (w.heap.push o)[b]? = _
  rw [Array.getElem?_push, if_neg (by omega)]
  exact h.row
/-- behind an append to what is said, ahead of the store -/
theorem Rd.grew {w w1 : World} {b : Nat} {s : ByteArray} {k : Nat} {v v' : Value} {T L : List UInt8} (h : Rd w b s k v T) (ho : w1.ownsRow (b + 1) 5 1 v' (T.length + L.length) (bvals T ++ bvals L)) (hg : w.grownBy w1 v.ownBlock) :
    w1.heap[b]? = some (.cells #[.string s, .int .i64 k, v] 39 (0, 0)) ∧ Rd (w1.setCell ⟨b, 2, none⟩ v') b s k v' (T ++ L) ∧ Below b w (w1.setCell ⟨b, 2, none⟩ v') := by
  have hl := h.lt
  have hne : some b ≠ v.ownBlock := by
    intro e
    have := (h.own.lt b e.symm).1
    omega
  have h1 : w1.heap[b]? = some (.cells #[.string s, .int .i64 k, v] 39 (0, 0)) := by rw [hg.block b hl hne]; exact h.row
  refine ⟨h1, ⟨?_, ?_, h.hk⟩, ?_⟩
  · rw [heap_setCell_same w1 b 2 _ 39 _ h1]; rfl
  · rw [List.length_append, bvals_app]
    refine ⟨ho.1, ?_⟩
    rcases ho.2 with h | ⟨g, cap, cur, e, hb, hgg, r⟩
    · exact .inl h
    · refine .inr ⟨g, cap, cur, e, hb, ?_, r⟩
      rw [Below.heap_setCell _ _ _ _ (by show g ≠ b; omega)]; exact hgg
  · have hb1 : Below b w w1 := (Below.refl b w).grown hg (by omega) (fun q hq => by have := (h.own.lt q hq).1; omega)
    exact hb1.setCell (p := ⟨b, 2, none⟩) (Nat.le_refl _) _
theorem own_slice {w : World} {base : Nat} {e : TypeId} {v : Value} {m : Nat} {xs : List Value} (h : w.ownsRow base e 1 v m xs) : ∃ a n cap, v = .slice a n cap := by
  rcases h.2 with ⟨hv, _⟩ | ⟨g, cap, cur, hv, _⟩
  · exact ⟨_, _, _, hv⟩
  · exact ⟨_, _, _, hv⟩

/-- what an escape by a number says -/
def sayOf (n : Nat) (m : UInt8) (tells : Bool) : Option (List UInt8) :=
  if tells = true ∧ m = 34 then some [UInt8.ofNat n] else if 1114111 < n then none else if isChar n = true then some (form n) else none
theorem form_none {r : Int} (h : isChar r = false) : form r = [] := by simp [form, h]
theorem form_some {r : Int} (h : isChar r = true) : form r ≠ [] := by
  intro e
  have := form_len r h
  rw [e] at this
  simp at this
set_option maxRecDepth 100000 in
set_option maxHeartbeats 4000000 in
theorem say_any (s : ByteArray) (n : Nat) (m : UInt8) (tells : Bool) (hn : n ≤ 4294967295) (ht : tells = true → n ≤ 255) (b k : Nat) (v : Value) (T : List UInt8) (hT : T.length ≤ 140737488351232) (w : World) (hR : Rd w b s k v T) :
    Calls Try.prog 38 #[.pointer (some ⟨b, 0, none⟩), .int .i64 n, .int .u8 m.toNat, .bool tells] w fun e w' => e = .returned (.bool (sayOf n m tells).isSome) ∧ (∀ L, sayOf n m tells = some L → ∃ v', Rd w' b s k v' (T ++ L)) ∧ Below b w w' := by
  obtain ⟨i0, hi, hz0, hz1, hz2⟩ := info_parts info5
  have bm := bytes_n m 34 34 rfl
  have c2 := hR.c2
  have f2 := hR.f 2
  have hlt := hR.lt
  by_cases hby : tells = true ∧ m = 34
  · have hA : sayOf n m tells = some [UInt8.ofNat n] := by unfold sayOf; rw [if_pos hby]
    rw [hA]
    obtain ⟨rfl, rfl⟩ := hby
    have hn2 := ht rfl
    have wn : IntKind.u8.wrap (n : Int) = ((UInt8.ofNat n).toNat : Int) := by
      have : (UInt8.ofNat n).toNat = n % 256 := by simp
      rw [this, IntKind.wrap_u8]; omega
    have HR := Lib.hid (hR.alloc (.cells #[.int .u8 ((UInt8.ofNat n).toNat : Int)] 5))
    have hB0 : Below b w (w.alloc (.cells #[.int .u8 ((UInt8.ofNat n).toNat : Int)] 5)) := (Below.refl b w).alloc (by omega) _
    have hO := hR.own
    have b34 : (((34 : UInt8).toNat : Int) == 34) = true := rfl
    clear hR hA bm
    go_enter Try.func38, Try.ntmps38
    go_wp2_with (at_builtin; refine wpList_append_own _ rfl _ _ 32 rfl (b + 1) 5 i0 (.int .u8 0) 1 1 Try.underlying32 hi hz0 hz1 hz2 rfl (by decide) _ _ _ rfl (hO.alloc _) ⟨w.heap.size, 0, none⟩ 1 1 [.int .u8 ((UInt8.ofNat n).toNat : Int)] rfl rfl ?c1 ?c2 ?c3 ?c4 ?c5 ?_)
    try any_goals (first | rfl | (unfold maxLen; omega) | omega | exact one_new _ _ _ | (intro u hu; simp at hu; subst hu; rfl; done) | (simp; omega))
    intro v' w1 hown' hgrow _
    obtain ⟨g1, g2, g3⟩ := HR.out.grew (L := [UInt8.ofNat n]) hown' hgrow
    obtain ⟨ao, nn, cap, rfl⟩ := own_slice hown'
    have d2 : w1.frozen? ⟨b, 2, none⟩ = false := by unfold World.frozen?; simp only [g1]; rfl
    have d3 : w1.cell? ⟨b, 2, none⟩ = some v := by unfold World.cell?; simp only [g1]; rfl
    have G := Lib.hid (And.intro g2 (hB0.trans g3))
    clear g1 g2 g3 hown' hgrow hO
    go_wp2
    go_ret
    exact ⟨rfl, (fun L hL => by cases hL; exact ⟨_, G.out.1⟩), G.out.2⟩
  · have hg : decide (tells = true ∧ m = 34) = false := decide_eq_false hby
    have hA : sayOf n m tells = if 1114111 < n then none else if isChar n = true then some (form n) else none := by unfold sayOf; rw [if_neg hby]
    have hgu : tells = false ∨ ((m.toNat : Int) == 34) = false := by
      cases tells with
      | false => exact .inl rfl
      | true =>
        right
        rw [bm]
        exact decide_eq_false fun e => hby ⟨rfl, e⟩
    clear hby hg bm
    by_cases hbig : 1114111 < n
    · have hA2 : sayOf n m tells = none := by rw [hA, if_pos hbig]
      rw [hA2]
      have d1 : (1114111 : Int) < n := by omega
      clear hA hA2 hR
      rcases hgu with rfl | hgm
      · go_enter Try.func38, Try.ntmps38
        go_wp2
        go_ret
        (first | exact ⟨rfl, (fun L hL => by cases hL), Below.refl _ _⟩ | exact ⟨rfl, Below.refl _ _⟩ | exact Below.refl _ _)
      · cases tells
        all_goals
          (go_enter Try.func38, Try.ntmps38
           go_wp2
           go_ret
           (first | exact ⟨rfl, (fun L hL => by cases hL), Below.refl _ _⟩ | exact ⟨rfl, Below.refl _ _⟩ | exact Below.refl _ _))
    · have d1 : ¬ (1114111 : Int) < n := by omega
      have wn : IntKind.i32.wrap (n : Int) = (n : Int) := by rw [IntKind.wrap_i32]; omega
      have hA2 : sayOf n m tells = if isChar n = true then some (form n) else none := by rw [hA, if_neg hbig]
      have hF := fun w => form_any (n : Int) w
      obtain ⟨F, hFe⟩ : ∃ F : ByteArray, F = ⟨(form n).toArray⟩ := ⟨_, rfl⟩
      have hFl : F.data.toList = form n := by rw [hFe]
      rw [← hFe] at hF
      have hFs : F.size = (form n).length := by rw [← hFl]; simp
      have hf4 : F.size ≤ 4 := by
        rw [hFs]
        cases hc : isChar n with
        | true => have := form_len n hc; omega
        | false => rw [form_none hc]; simp
      have hemp : F.toList.isEmpty = !isChar n := by
        have e : F.toList = F.data.toList := by
          unfold ByteArray.toList
          rw [ByteArray.toList_loop_eq F F.size 0 [] (by omega) (by omega)]; simp
        rw [e, hFl]
        cases hc : isChar n with
        | true =>
          have := form_some hc
          cases h : form (n : Int) with
          | nil => exact absurd h this
          | cons => rfl
        | false => rw [form_none hc]; rfl
      have HR := Lib.hid hR
      have hO := hR.own
      have HA := Lib.hid hA2
      have HFL := Lib.hid (And.intro hFl hFs)
      clear hA hA2 hR hFe hFl hFs hbig
      have key : ∀ (v' : Value) (w1 : World), w1.ownsRow (b + 1) 5 1 v' (T.length + F.size) (bvals T ++ Lib.strCells F) → w.grownBy w1 v.ownBlock →
          w1.heap[b]? = some (.cells #[.string s, .int .i64 k, v] 39 (0, 0)) ∧ (Rd (w1.setCell ⟨b, 2, none⟩ v') b s k v' (T ++ form n)) ∧ Below b w (w1.setCell ⟨b, 2, none⟩ v') := by
        intro v' w1 ho hg
        rw [strCells_eq, HFL.out.1, HFL.out.2] at ho
        exact HR.out.grew ho hg
      have KEY := Lib.hid key
      clear key
      rcases hgu with rfl | hgm
      · go_enter Try.func38, Try.ntmps38
        go_wp2_with (first
          | (go_at_call 33; refine (hF _).mono ?_; rintro e w1 ⟨rfl, rfl⟩)
          | (at_builtin; refine Lib.wpList_append_own_string _ rfl _ _ 32 9 rfl (b + 1) 5 i0 Try.underlying32 Try.underlying9 hi hz0 hz1 hz2 _ _ _ rfl hO F rfl (by unfold maxLen; omega) (by omega) (by omega) ?_))
        try any_goals (first | rfl | (unfold maxLen; omega) | omega | exact one_new _ _ _ | (intro u hu; simp at hu; subst hu; rfl; done) | (simp; omega))
        intro v' w1 hown' hgrow _
        obtain ⟨g1, g2, g3⟩ := KEY.out _ _ hown' hgrow
        obtain ⟨ao, nn, cap, rfl⟩ := own_slice hown'
        have d2 : w1.frozen? ⟨b, 2, none⟩ = false := by unfold World.frozen?; simp only [g1]; rfl
        have d3 : w1.cell? ⟨b, 2, none⟩ = some v := by unfold World.cell?; simp only [g1]; rfl
        have G := Lib.hid (And.intro g2 g3)
        clear g1 g2 g3 hown' hgrow hO
        cases hc : isChar n with
        | true =>
          rw [hc] at hemp
          have hA3 := Lib.hid (show sayOf n m _ = some (form n) by rw [HA.out, if_pos hc])
          clear hc
          go_wp2
          go_ret
          exact ⟨by rw [hA3.out]; rfl, (fun L hL => by rw [hA3.out] at hL; cases hL; exact ⟨_, G.out.1⟩), G.out.2⟩
        | false =>
          rw [hc] at hemp
          have hA3 := Lib.hid (show sayOf n m _ = none by rw [HA.out, if_neg (by rw [hc]; decide)])
          clear hc
          go_wp2
          go_ret
          exact ⟨by rw [hA3.out]; rfl, (fun L hL => by rw [hA3.out] at hL; cases hL), G.out.2⟩
      · cases tells
        all_goals
          go_enter Try.func38, Try.ntmps38
          go_wp2_with (first
            | (go_at_call 33; refine (hF _).mono ?_; rintro e w1 ⟨rfl, rfl⟩)
            | (at_builtin; refine Lib.wpList_append_own_string _ rfl _ _ 32 9 rfl (b + 1) 5 i0 Try.underlying32 Try.underlying9 hi hz0 hz1 hz2 _ _ _ rfl hO F rfl (by unfold maxLen; omega) (by omega) (by omega) ?_))
          try any_goals (first | rfl | (unfold maxLen; omega) | omega | exact one_new _ _ _ | (intro u hu; simp at hu; subst hu; rfl; done) | (simp; omega))
          intro v' w1 hown' hgrow _
          obtain ⟨g1, g2, g3⟩ := KEY.out _ _ hown' hgrow
          obtain ⟨ao, nn, cap, rfl⟩ := own_slice hown'
          have d2 : w1.frozen? ⟨b, 2, none⟩ = false := by unfold World.frozen?; simp only [g1]; rfl
          have d3 : w1.cell? ⟨b, 2, none⟩ = some v := by unfold World.cell?; simp only [g1]; rfl
          have G := Lib.hid (And.intro g2 g3)
          clear g1 g2 g3 hown' hgrow hO
          cases hc : isChar n with
          | true =>
            rw [hc] at hemp
            have hA3 := Lib.hid (show sayOf n m _ = some (form n) by rw [HA.out, if_pos hc])
            clear hc
            go_wp2
            go_ret
            exact ⟨by rw [hA3.out]; rfl, (fun L hL => by rw [hA3.out] at hL; cases hL; exact ⟨_, G.out.1⟩), G.out.2⟩
          | false =>
            rw [hc] at hemp
            have hA3 := Lib.hid (show sayOf n m _ = none by rw [HA.out, if_neg (by rw [hc]; decide)])
            clear hc
            go_wp2
            go_ret
            exact ⟨by rw [hA3.out]; rfl, (fun L hL => by rw [hA3.out] at hL; cases hL), G.out.2⟩
end Go.Proofs.Ytpbkdgbmnffooaa
