/-
  Several texts in one; what each one has stands at its head.
-/
import Derived.Test.YtaokifbpakbgdaaGreatDoorPut11
import Derived.Test.YtaokifbpakbgdaaGreatDoorPut12
import Derived.Test.YtaokifbpakbgdaaGreatDoorPut6
/- Package archive: what was laid in last of pictures (slices.MaxFunc, cmp.Compare); put. -/
namespace Go.Proofs.YtaokifbpakbgdaaGreatDoor
open Go.RowKit Go.Maps

theorem isNaN_any (w : World) (a : Int) : Calls Tryz.prog 275 #[.int .i64 a] w fun e w' => e = .returned (.bool false) ∧ w' = w := by
  go_enter Tryz.func275, Tryz.ntmps275
  go_wp2
  go_ret
  exact ⟨by simp, rfl⟩
theorem compare_any (w : World) (a b : Int) : Calls Tryz.prog 234 #[.int .i64 a, .int .i64 b] w fun e w' => (∃ c : Int, e = .returned (.int .i64 c) ∧ decide (0 < c) = decide (b < a)) ∧ w' = w := by
  go_enter Tryz.func234, Tryz.ntmps234
  go_wp2_with fail
  go_at_call 275
  refine (isNaN_any _ _).mono ?_
  rintro e w1 ⟨rfl, rfl⟩
  go_wp2_with fail
  go_at_call 275
  refine (isNaN_any _ _).mono ?_
  rintro e w1 ⟨rfl, rfl⟩
  by_cases h1 : a < b
  · go_wp2
    go_ret
    exact ⟨⟨_, rfl, by rw [decide_eq_false (by omega), decide_eq_false (by omega)]⟩, rfl⟩
  · by_cases h2 : b < a
    · go_wp2
      go_ret
      exact ⟨⟨_, rfl, by rw [decide_eq_true (by omega), decide_eq_true (by omega)]⟩, rfl⟩
    · go_wp2
      go_ret
      exact ⟨⟨_, rfl, by rw [decide_eq_false (by omega), decide_eq_false (by omega)]⟩, rfl⟩
set_option maxRecDepth 20000 in
theorem lastClo_any (w : World) (d1 d2 : Nat) (t1 t2 : Int) : Calls Tryz.prog 233 #[picV d1 t1, picV d2 t2] w fun e w' => (∃ c : Int, e = .returned (.int .i64 c) ∧ decide (0 < c) = decide (t2 < t1)) ∧ Below w.heap.size w w' := by
  have u1 := hid (Below.alloc (Below.alloc (Below.refl w.heap.size w) (Nat.le_refl _) (.cells #[.map (some d1), .int .i64 t1] 131)) (by simp) (.cells #[.map (some d2), .int .i64 t2] 131))
  unfold picV
  go_enter Tryz.func233, Tryz.ntmps233
  go_wp2_with fail
  go_at_call 234
  refine (compare_any _ _ _).mono ?_
  rintro e w1 ⟨⟨c, rfl, hc⟩, rfl⟩
  have HC := hid hc
  clear hc
  go_wp2
  go_ret
  exact ⟨⟨c, rfl, HC.out⟩, u1.out⟩
theorem rowP_at {n : Nat} {A : List (List (El (n + 2)))} {pd : List (El (n + 2)) → Nat × Int} : ∀ {xs : List (Of A)} {k : Nat} (h : k < xs.length), (rowP pd xs)[k * 2]? = some (.map (some (pd xs[k].1).1)) ∧ (rowP pd xs)[k * 2 + 1]? = some (.int .i64 (pd xs[k].1).2)
  | x :: xs, 0, _ => by simp [rowP, pcs]
  | x :: xs, k + 1, h => by
    have ih := rowP_at (pd := pd) (xs := xs) (k := k) (by simpa using h)
    have e : rowP pd (x :: xs) = .map (some (pd x.1).1) :: .int .i64 (pd x.1).2 :: rowP pd xs := by simp [rowP, pcs]
    rw [e, show (k + 1) * 2 = k * 2 + 1 + 1 by omega]
    simpa using ih
theorem pic_at {n : Nat} {A : List (List (El (n + 2)))} {pd : List (El (n + 2)) → Nat × Int} {w : World} {base : Nat} {v : Value} {xs : List (Of A)} (h : w.ownsRow base 131 2 v xs.length (rowP pd xs)) {k : Nat} (hk : k < xs.length) :
    ∃ g cap, v = .slice (some ⟨g, 0, none⟩) xs.length cap ∧ w.cell? ⟨g, k * 2, none⟩ = some (.map (some (pd xs[k].1).1)) ∧ w.cell? ⟨g, k * 2 + 1, none⟩ = some (.int .i64 (pd xs[k].1).2) := by
  rcases id h.2 with ⟨_, h1⟩ | ⟨g, cap, cur, rfl, _⟩
  · omega
  · obtain ⟨q0, q1⟩ := rowP_at (pd := pd) hk
    exact ⟨g, cap, rfl, by rw [h.cellAt _ (by omega)]; exact q0, by rw [h.cellAt _ (by omega)]; exact q1⟩
theorem cells2_set0 {W : World} {B : Nat} {c0 c1 : Value} (h : W.heap[B]? = some (.cells #[c0, c1] 131 (0, 0))) (u : Value) : (W.setCell ⟨B, 0, none⟩ u).heap[B]? = some (.cells #[u, c1] 131 (0, 0)) := by
  have hlt := lt_of_block h
  have h' : W.heap[B] = .cells #[c0, c1] 131 (0, 0) := by rw [Array.getElem?_eq_getElem hlt] at h; exact Option.some.inj h
  show (W.heap.modify B _)[B]? = _
  rw [Array.getElem?_eq_getElem (by simpa using hlt), Array.getElem_modify_self, h']
  rfl
theorem cells2_set1 {W : World} {B : Nat} {c0 c1 : Value} (h : W.heap[B]? = some (.cells #[c0, c1] 131 (0, 0))) (u : Value) : (W.setCell ⟨B, 1, none⟩ u).heap[B]? = some (.cells #[c0, u] 131 (0, 0)) := by
  have hlt := lt_of_block h
  have h' : W.heap[B] = .cells #[c0, c1] 131 (0, 0) := by rw [Array.getElem?_eq_getElem hlt] at h; exact Option.some.inj h
  show (W.heap.modify B _)[B]? = _
  rw [Array.getElem?_eq_getElem (by simpa using hlt), Array.getElem_modify_self, h']
  rfl
theorem cells2_set {W : World} {B : Nat} {c0 c1 : Value} (h : W.heap[B]? = some (.cells #[c0, c1] 131 (0, 0))) (u0 u1 : Value) : ((W.setCell ⟨B, 0, none⟩ u0).setCell ⟨B, 1, none⟩ u1).heap[B]? = some (.cells #[u0, u1] 131 (0, 0)) := cells2_set1 (cells2_set0 h u0) u1
/-- The one of the greatest turn. -/
def IsLast {n : Nat} {A : List (List (El (n + 2)))} (pd : List (El (n + 2)) → Nat × Int) (xs : List (Of A)) (y : Of A) : Prop := y ∈ xs ∧ ∀ x ∈ xs, (pd x.1).2 ≤ (pd y.1).2
theorem IsLast.step {n : Nat} {A : List (List (El (n + 2)))} {pd : List (El (n + 2)) → Nat × Int} {xs : List (Of A)} {k : Nat} (hk : k < xs.length) {y : Of A} (h : IsLast pd (xs.take k) y) : IsLast pd (xs.take (k + 1)) (if (pd y.1).2 < (pd xs[k].1).2 then xs[k] else y) := by
  rw [List.take_succ_eq_append_getElem hk]
  obtain ⟨h1, h2⟩ := h
  by_cases e : (pd y.1).2 < (pd xs[k].1).2
  · rw [if_pos e]
    refine ⟨List.mem_append_right _ (List.mem_singleton.2 rfl), fun x hx => ?_⟩
    rcases List.mem_append.1 hx with hx | hx
    · have := h2 x hx; omega
    · rw [List.mem_singleton.1 hx]; exact Int.le_refl _
  · rw [if_neg e]
    refine ⟨List.mem_append_left _ h1, fun x hx => ?_⟩
    rcases List.mem_append.1 hx with hx | hx
    · exact h2 x hx
    · rw [List.mem_singleton.1 hx]; omega
set_option maxRecDepth 20000 in
set_option maxHeartbeats 2000000 in
theorem maxFunc_any {n : Nat} (A : List (List (El (n + 2)))) (pd : List (El (n + 2)) → Nat × Int) (w : World) (base : Nat) (v : Value) (xs : List (Of A)) (h : w.ownsRow base 131 2 v xs.length (rowP pd xs)) (hne : 0 < xs.length) (hl : xs.length ≤ 48) :
    Calls Tryz.prog 232 #[v, .func (.func 233) #[] #[]] w fun e w' => ∃ y, IsLast pd xs y ∧ e = .returned (picV (pd y.1).1 (pd y.1).2) ∧ Below w.heap.size w w' := by
  obtain ⟨g, cap, rfl, c0, c1⟩ := pic_at h hne
  have H := hid h
  have b1 : ¬ ((xs.length : Int) < 1) := by omega
  have u1 := Below.alloc (Below.alloc (Below.refl w.heap.size w) (Nat.le_refl _) (.cells #[.map none, .int .i64 0] 131)) (by simp) (.cells #[.map (some (pd xs[0].1).1), .int .i64 (pd xs[0].1).2] 131)
  have d0 := (Below.cell (Below.alloc (Below.refl w.heap.size w) (Nat.le_refl _) (.cells #[.map none, .int .i64 0] 131)) (World.block_lt_of_cell? _ _ c0)).trans c0
  have d1 := (Below.cell (Below.alloc (Below.refl w.heap.size w) (Nat.le_refl _) (.cells #[.map none, .int .i64 0] 131)) (World.block_lt_of_cell? _ _ c1)).trans c1
  have hp : Pic2 ((w.alloc (.cells #[.map none, .int .i64 0] 131)).alloc (.cells #[.map (some (pd xs[0].1).1), .int .i64 (pd xs[0].1).2] 131)) (w.heap.size + 1) (pd xs[0].1).1 (pd xs[0].1).2 := by
    have := heap_alloc_new (w.alloc (.cells #[.map none, .int .i64 0] 131)) (.cells #[.map (some (pd xs[0].1).1), .int .i64 (pd xs[0].1).2] 131)
    rw [World.size_alloc] at this
    exact this
  have hr0 : ((w.alloc (.cells #[.map none, .int .i64 0] 131)).alloc (.cells #[.map (some (pd xs[0].1).1), .int .i64 (pd xs[0].1).2] 131)).heap[w.heap.size]? = some (.cells #[.map none, .int .i64 0] 131 (0, 0)) := (Below.heap_alloc _ _ _ (by simp)).trans (heap_alloc_new _ _)
  have U1 := hid u1
  have HP := hid hp
  have HR := hid hr0
  have HL0 := hid (show IsLast pd (xs.take 1) xs[0] by
    rw [List.take_succ_eq_append_getElem hne, List.take_zero, List.nil_append]
    exact ⟨List.mem_singleton.2 rfl, fun x hx => by rw [List.mem_singleton.1 hx]; exact Int.le_refl _⟩)
  clear h u1 hp hr0 c0 c1
  go_enter Tryz.func232, Tryz.ntmps232
  go_wp2_with fail
  go_loopw [6] (fun i wr => ∃ (k : Nat) (y : Of A), 1 ≤ k ∧ k ≤ xs.length ∧ i = .int .i64 k ∧ Hid (IsLast pd (xs.take k) y) ∧ Hid (Pic2 wr (w.heap.size + 1) (pd y.1).1 (pd y.1).2) ∧ Hid (wr.heap[w.heap.size]? = some (.cells #[.map none, .int .i64 0] 131 (0, 0))) ∧ Hid (Below w.heap.size w wr)) (fun i _ => xs.length - (intOf i).toNat)
  case atStart => exact ⟨1, xs[0], Nat.le_refl _, hne, rfl, HL0, HP, HR, U1⟩
  case round =>
    obtain ⟨k, y, hk1, hk, rfl, hL, hP, hR, hU⟩ := hrel
    have e0 := hP.out.cells.1
    have e1 := hP.out.cells.2
    have f0 : wr.frozen? ⟨w.heap.size + 1, 0, none⟩ = false := by have := hP.out; unfold Pic2 at this; simp [World.frozen?, this]
    have f1 : wr.frozen? ⟨w.heap.size + 1, 1, none⟩ = false := by have := hP.out; unfold Pic2 at this; simp [World.frozen?, this]
    by_cases hkl : k < xs.length
    · obtain ⟨g2, cap2, hv2, a0, a1⟩ := pic_at (ownsRow_keep H.out (w' := wr) (fun j hj => hU.out.block j (ownsRow_lt H.out j hj))) hkl
      obtain ⟨hg2, _, rfl⟩ := Value.slice.inj hv2
      injection hg2 with hg2
      injection hg2 with hg2 _ _
      subst hg2
      have hst := hid (hL.out.step hkl)
      clear hv2 hL
      generalize xs[k] = x at a0 a1 hst
      have C := hid (fun W => lastClo_any W (pd x.1).1 (pd y.1).1 (pd x.1).2 (pd y.1).2)
      unfold picV at C
      by_cases hlt : (pd y.1).2 < (pd x.1).2
      · rw [if_pos hlt] at hst
        go_wp2_with fail
        go_region_with (go_at_call 233; refine (C.out _).mono ?_; rintro e w2 ⟨⟨c, rfl, hc⟩, u2⟩; have hc2 : 0 < c := by rw [decide_eq_true hlt] at hc; simpa using hc)
        all_goals
          have hl1 := lt_of_block hR.out
          have hl2 : w.heap.size + 1 < wr.heap.size := lt_of_block hP.out
          have P2 := hid (show Pic2 w2 (w.heap.size + 1) (pd y.1).1 (pd y.1).2 from (u2.block _ hl2).trans hP.out)
          have R2 := hid ((u2.block _ hl1).trans hR.out)
          have U2 := hid (hU.out.drew.trans (u2.mono hU.out.drew.size))
          have b0 := (u2.cell (World.block_lt_of_cell? _ _ a0)).trans a0
          have b1' := (u2.cell (World.block_lt_of_cell? _ _ a1)).trans a1
          have e0' := P2.out.cells.1
          have e1' := P2.out.cells.2
          have f0' : w2.frozen? ⟨w.heap.size + 1, 0, none⟩ = false := by have := P2.out; unfold Pic2 at this; simp [World.frozen?, this]
          have f1' : w2.frozen? ⟨w.heap.size + 1, 1, none⟩ = false := by have := P2.out; unfold Pic2 at this; simp [World.frozen?, this]
          have PS := hid (cells2_set P2.out (.map (some (pd x.1).1)) (.int .i64 (pd x.1).2))
          have RS := hid ((Below.heap_setCell (w2.setCell ⟨w.heap.size + 1, 0, none⟩ (.map (some (pd x.1).1))) ⟨w.heap.size + 1, 1, none⟩ (.int .i64 (pd x.1).2) w.heap.size (by simp)).trans ((Below.heap_setCell w2 ⟨w.heap.size + 1, 0, none⟩ (.map (some (pd x.1).1)) w.heap.size (by simp)).trans R2.out))
          have US := hid ((U2.out.setCell (p := ⟨w.heap.size + 1, 0, none⟩) (by simp) (.map (some (pd x.1).1))).setCell (p := ⟨w.heap.size + 1, 1, none⟩) (by simp) (.int .i64 (pd x.1).2))
          clear hc hlt u2 hP hR hU
          go_wp2
          go_roundw
          case rel => exact ⟨k + 1, x, by omega, by omega, by go_num, hst, PS, RS, US⟩
          case measure => simp [intOf]; omega
      · rw [if_neg hlt] at hst
        have HC := hid (fun (c : Int) (h : decide (0 < c) = decide ((pd y.1).2 < (pd x.1).2)) => (show decide (0 < c) = false by rw [decide_eq_false hlt] at h; exact h))
        go_wp2_with fail
        go_region_with (go_at_call 233; refine (C.out _).mono ?_; rintro e w2 ⟨⟨c, rfl, hc⟩, u2⟩; have hc2 : decide (0 < c) = false := HC.out c hc; clear hc)
        all_goals
          have hl1 := lt_of_block hR.out
          have hl2 : w.heap.size + 1 < wr.heap.size := lt_of_block hP.out
          have P2 := hid (show Pic2 w2 (w.heap.size + 1) (pd y.1).1 (pd y.1).2 from (u2.block _ hl2).trans hP.out)
          have R2 := hid ((u2.block _ hl1).trans hR.out)
          have U2 := hid (hU.out.drew.trans (u2.mono hU.out.drew.size))
          clear hlt u2 hP hR hU
          go_wp2
          go_roundw
          case rel => exact ⟨k + 1, y, by omega, by omega, by go_num, hst, P2, R2, U2⟩
          case measure => simp [intOf]; omega
    · obtain rfl : k = xs.length := by omega
      have hLL := hid (show IsLast pd xs y by have := hL.out; rwa [List.take_of_length_le (Nat.le_refl _)] at this)
      have hb2 := hR.out
      have g0 : wr.cell? ⟨w.heap.size, 0, none⟩ = some (.map none) := by simp [World.cell?, hb2]
      have g1 : wr.cell? ⟨w.heap.size, 1, none⟩ = some (.int .i64 0) := by simp [World.cell?, hb2]
      have k0 : wr.frozen? ⟨w.heap.size, 0, none⟩ = false := by simp [World.frozen?, hb2]
      have k1 : wr.frozen? ⟨w.heap.size, 1, none⟩ = false := by simp [World.frozen?, hb2]
      have r0 := cells2_set hb2 (.map (some (pd y.1).1)) (.int .i64 (pd y.1).2)
      have q0 : ((wr.setCell ⟨w.heap.size, 0, none⟩ (.map (some (pd y.1).1))).setCell ⟨w.heap.size, 1, none⟩ (.int .i64 (pd y.1).2)).cell? ⟨w.heap.size, 0, none⟩ = some (.map (some (pd y.1).1)) := by simp [World.cell?, r0]
      have q1 : ((wr.setCell ⟨w.heap.size, 0, none⟩ (.map (some (pd y.1).1))).setCell ⟨w.heap.size, 1, none⟩ (.int .i64 (pd y.1).2)).cell? ⟨w.heap.size, 1, none⟩ = some (.int .i64 (pd y.1).2) := by simp [World.cell?, r0]
      clear hb2 r0 hL
      go_wp2
      (try simp only [Exit.inBlock, Exit.then])
      refine bodyPost_ret (v := .agg #[.map (some (pd y.1).1), .int .i64 (pd y.1).2]) (by simp [results, Tryz.results232, go_sem, q0, q1]) rfl ?_
      exact ⟨y, hLL.out, rfl, (hU.out.setCell (Nat.le_refl _) _).setCell (Nat.le_refl _) _⟩
set_option maxRecDepth 20000 in
theorem last_any {n : Nat} (A : List (List (El (n + 2)))) (pd : List (El (n + 2)) → Nat × Int) (w : World) (base : Nat) (v : Value) (xs : List (Of A)) (h : w.ownsRow base 131 2 v xs.length (rowP pd xs)) (hne : 0 < xs.length) (hl : xs.length ≤ 48) :
    Calls Tryz.prog 181 #[v] w fun e w' => ∃ y, IsLast pd xs y ∧ e = .returned (picV (pd y.1).1 (pd y.1).2) ∧ Below w.heap.size w w' := by
  have u1 := Below.alloc (Below.refl w.heap.size w) (Nat.le_refl _) (.cells #[.map none, .int .i64 0] 131)
  have C := hid (maxFunc_any A pd _ base v xs (h.alloc (.cells #[.map none, .int .i64 0] 131)) hne hl)
  have U1 := hid u1
  have HB := hid (heap_alloc_new w (.cells #[.map none, .int .i64 0] 131))
  clear h u1
  go_enter Tryz.func181, Tryz.ntmps181
  go_wp2_with fail
  go_at_call 232
  refine C.out.mono ?_
  rintro e w2 ⟨y, hy, rfl, u2⟩
  have HY := hid hy
  have U2 := hid (U1.out.trans (u2.mono U1.out.size))
  have hb2 := (u2.block _ (by simp)).trans HB.out
  have g0 : w2.cell? ⟨w.heap.size, 0, none⟩ = some (.map none) := by simp [World.cell?, hb2]
  have g1 : w2.cell? ⟨w.heap.size, 1, none⟩ = some (.int .i64 0) := by simp [World.cell?, hb2]
  have f0 : w2.frozen? ⟨w.heap.size, 0, none⟩ = false := by simp [World.frozen?, hb2]
  have f1 : w2.frozen? ⟨w.heap.size, 1, none⟩ = false := by simp [World.frozen?, hb2]
  have r0 := cells2_set hb2 (.map (some (pd y.1).1)) (.int .i64 (pd y.1).2)
  have q0 : ((w2.setCell ⟨w.heap.size, 0, none⟩ (.map (some (pd y.1).1))).setCell ⟨w.heap.size, 1, none⟩ (.int .i64 (pd y.1).2)).cell? ⟨w.heap.size, 0, none⟩ = some (.map (some (pd y.1).1)) := by simp [World.cell?, r0]
  have q1 : ((w2.setCell ⟨w.heap.size, 0, none⟩ (.map (some (pd y.1).1))).setCell ⟨w.heap.size, 1, none⟩ (.int .i64 (pd y.1).2)).cell? ⟨w.heap.size, 1, none⟩ = some (.int .i64 (pd y.1).2) := by simp [World.cell?, r0]
  clear u2 hb2 C hy r0
  unfold picV
  go_wp2
  (try simp only [Exit.inBlock, Exit.then])
  refine bodyPost_ret (v := .agg #[.map (some (pd y.1).1), .int .i64 (pd y.1).2]) (by simp [results, Tryz.results181, go_sem, q0, q1]) rfl ?_
  exact ⟨y, HY.out, rfl, (U2.out.setCell (Nat.le_refl _) _).setCell (Nat.le_refl _) _⟩
end Go.Proofs.YtaokifbpakbgdaaGreatDoor

/- Package archive: put; a description that was copied (maps.Clone). -/
namespace Go.Proofs.YtaokifbpakbgdaaGreatDoor
open Go.RowKit Go.Maps

set_option maxRecDepth 20000 in
theorem put_any (w : World) (F : Nat → Prop) (n b m : Nat) (g : Int → Option (El (n + 1))) (t : Int) (s : By) (h : DMk w F n b m g) (hm : m ≤ 100) (hF : ∀ j, F j → j ≠ b) (ht : -9223372036854775808 ≤ t ∧ t ≤ 9223372036854775807) :
    Calls Tryz.prog 182 #[.map (some b), .int .i64 t, .string (bs s)] w fun e w' => e = .returned (.tuple #[]) ∧ w.grownBy w' (some b) ∧ DMk w' F n b (m + 1) (updG g t (t, kindT t, s, [])) := by
  obtain ⟨f, hM, hc⟩ := h
  have hwf := int_wf ht
  have HM := hid hM
  have HC := hid hc
  have HF := hid hF
  clear hM hc hF
  go_enter Tryz.func182, Tryz.ntmps182
  go_wp2_with fail
  go_at_call 178
  refine (kindOf_any _ t).mono ?_
  rintro e w1 ⟨rfl, rfl⟩
  generalize hk : kindT t = kd
  have HK := hid hk
  clear hk
  go_wp2_with (at_mapUpdate; refine wpList_update_F rfl _ _ _ 127 rfl 3 73 (Maps.int_keyed Tryz.underlying3) Tryz.underlying127 b m f rfl HM.out (by unfold maxLen; omega) _ _ (.int .i64 t) rfl rfl (Maps.keyOf_int_mk Tryz.underlying3 hwf) trivial ?_)
  intro w4 hM4 hg4
  have D4 := hid (DMk.put (w := w1) (w' := w4) (F' := F) (x := (t, kd, s, [])) (iv := .slice none 0 0) HC.out (fun j hj => hj) (fun j hj hj2 => hg4.block j hj2 (fun e => HF.out j hj (by simpa using e))) hM4 (RdI.nil _ _ _))
  have G4 := hid hg4
  clear hM4 hg4
  go_wp2
  go_end0
  rw [HK.out]
  exact ⟨rfl, G4.out, D4.out⟩
theorem mclone_any (w : World) (F : Nat → Prop) (n b m : Nat) (g : Int → Option (El (n + 1))) (h : DMk w F n b m g) :
    Calls Tryz.prog 180 #[.map (some b)] w fun e w' => e = .returned (.map (some w.heap.size)) ∧ Below w.heap.size w w' ∧ DMk w' F n w.heap.size m g := by
  obtain ⟨f, ⟨D, h1, h2⟩, hc⟩ := h
  have hcon := AnyW.maps_Clone_owns Tryz.cloneM 3 heldR b m D w h1
  change Calls Tryz.prog 180 _ _ _ at hcon
  refine hcon.mono ?_
  rintro e w' ⟨rfl, h3, _, hB⟩
  exact ⟨rfl, hB, f, ⟨D, h3, h2⟩, fun t => (hc t).keep (fun _ h => h) (fun j _ hj => hB.block j hj)⟩
end Go.Proofs.YtaokifbpakbgdaaGreatDoor

/- The library's iterator over a slice (slices.Values), at pictures; on, by pictures that are known; countIn. -/
namespace Go.Proofs.YtaokifbpakbgdaaGreatDoor
open Go.RowKit Go.Maps Go.Shelf
attribute [local go_sem] Oper.semAt_some

set_option maxRecDepth 100000 in
set_option maxHeartbeats 2000000 in
theorem svalues_in (Fe : Fence) (nF : Nat) (h8 : Fe.fn 277) (hro : Fe.round = none) (hn : 1 ≤ nF) {n : Nat} (l Bm nb lo base N : Nat) (A : List (List (El (n + 2)))) (pd : List (El (n + 2)) → Nat × Int) (J Jx : List (Of A) → World → Prop) (v : Value) (xs : List (Of A)) (hN : xs.length ≤ N) (hN2 : N ≤ 48)
    (hY : ∀ pre x W, J pre W → pre.length < N → YieldAt Fe (nF - 1) Tryz.prog l (encP pd x) W fun e W' => (e = .returned (.bool true) ∧ J (pre ++ [x]) W' ∧ KeepsBut nb lo W W') ∨ (e = .returned (.bool false) ∧ Jx (pre ++ [x]) W'))
    (W : World) (hJ : AbidesFrom W.heap.size J) (hm : W.cell? ⟨Bm, 0, none⟩ = some v) (hrow : W.ownsRow base 131 2 v xs.length (rowP pd xs)) (hrl : ∀ j ∈ v.ownBlock.toList, j < lo) (hlo : lo ≤ W.heap.size) (h0 : J [] W) :
    CallsIn Fe nF Tryz.prog 277 #[.func (.yield l) #[] #[], .pointer (some ⟨Bm, 0, none⟩)] W fun e W' => (∃ v, e = .returned v) ∧ ((∃ ys, ys = xs ∧ J ys W') ∨ (∃ pre, True ∧ Jx pre W')) := by
  obtain ⟨ad, cap, rfl⟩ := row_sl hrow
  refine callsIn_of_wp Tryz.func277 rfl h8 ?_ hro
  simp only [Tryz.ntmps277, List.size_toArray, List.length_cons, List.length_nil, Nat.reduceAdd, Nat.reduceSub, Array.replicate_succ, Array.replicate_zero, List.push_toArray, List.append_toArray, List.nil_append, List.cons_append]
  gi_wp2
  gi_loopw [7] (fun i wr => ∃ k : Nat, k ≤ xs.length ∧ i = .int .i64 k ∧ Hid (∀ j, j < lo → wr.heap[j]? = W.heap[j]?) ∧ Hid (J (xs.take k) wr) ∧ Hid (W.heap.size ≤ wr.heap.size)) (fun i _ => xs.length - (intOf i).toNat)
  case atStart => exact ⟨0, Nat.zero_le _, rfl, fun _ _ => rfl, h0, Nat.le_refl _⟩
  case round =>
    obtain ⟨k, hk, rfl, hL, hJk, hsz⟩ := hrel
    by_cases hkl : k < xs.length
    · obtain ⟨g, cap2, hv, a0, a1⟩ := pic_at (ownsRow_keep hrow (w' := wr) (fun j hj => hL.out j (hrl j hj))) hkl
      obtain ⟨rfl, _, rfl⟩ := Value.slice.inj hv
      have hst : xs.take (k + 1) = xs.take k ++ [xs[k]] := List.take_succ_eq_append_getElem hkl
      have hST := hid hst
      have hlen : (xs.take k).length < N := by rw [List.length_take]; omega
      clear hv hst
      generalize xs[k] = x at a0 a1 hST
      have hJ3 := hJ (xs.take k) wr (wr.alloc (.cells #[.map (some (pd x.1).1), .int .i64 (pd x.1).2] 131)) none hJk.out (World.grownBy_alloc wr _ none) (fun r e => by cases e)
      obtain ⟨fn, tmps, assign, body, hy, hR⟩ := hY (xs.take k) x _ hJ3 hlen
      dsimp only [encP] at hy
      unfold picV at hy
      gi_wp2
      refine hR.mono ?_
      rintro e W3 (⟨rfl, hJ3', hk3⟩ | ⟨rfl, hJx3⟩)
      · gi_wp2
        have hL3 := hid (fun j (hj : j < lo) => (hk3.low j hj).trans ((Below.heap_alloc wr (.cells #[.map (some (pd x.1).1), .int .i64 (pd x.1).2] 131) j (by have := hsz.out; omega)).trans (hL.out j hj)))
        have hsz3 : Hid (W.heap.size ≤ W3.heap.size) := by have q1 := hsz.out; have q2 := hk3.size; rw [World.size_alloc] at q2; unfold Hid; omega
        go_roundw
        case rel => exact ⟨k + 1, by omega, by go_num, hL3, by unfold Hid; rw [hST.out]; exact hJ3', hsz3⟩
        case measure => simp [intOf]; omega
      · gi_wp2
        refine bodyPost_ret (results_none rfl _ _ _) rfl ?_
        exact ⟨⟨_, rfl⟩, .inr ⟨_, trivial, hJx3⟩⟩
    · gi_wp2
      go_end0
      exact ⟨⟨_, rfl⟩, .inl ⟨_, List.take_of_length_le (by omega), hJk.out⟩⟩
theorem slicesValues_any (w : World) (ad : Option Addr) (m c : Nat) : Calls Tryz.prog 236 #[.slice ad m c] w fun e w' => e = .returned (.func (.func 277) #[] #[.pointer (some ⟨w.heap.size, 0, none⟩)]) ∧ w' = w.alloc (.cells #[.slice ad m c] 144) := by
  go_enter Tryz.func236, Tryz.ntmps236
  go_wp2
  go_ret
  exact ⟨rfl, rfl⟩
/-- The pictures of an archive, by their data sets. -/
def PdOf {n : Nat} (w : World) (F : Nat → Prop) (f : Lit → Option Value) (A : List (List (El (n + 2)))) (pd : List (El (n + 2)) → Nat × Int) : Prop := ∀ l ∈ A, f (keyS (nm 3 l)) = some (picV (pd l).1 (pd l).2) ∧ DMk w F (n + 1) (pd l).1 24 (descG l)
theorem PdOf.up {n : Nat} {w w' : World} {F : Nat → Prop} {f : Lit → Option Value} {A : List (List (El (n + 2)))} {pd : List (El (n + 2)) → Nat × Int} (h : PdOf w F f A pd) (k : Below w.heap.size w w') : PdOf w' F f A pd := fun l hl => ⟨(h l hl).1, (h l hl).2.up k⟩
/-- All that is there on a level. -/
def OnEnd2 {n : Nat} (w : World) (lvl : Nat) (A : List (List (El (n + 2)))) (pd : List (El (n + 2)) → Nat × Int) (e : Ending) (W' : World) : Prop := Below w.heap.size w W' ∧
  ∃ (nb B0 : Nat) (xs : List (Of A)) (f : Lit → Option Value) (vs : By → Value), e = .returned (.map (some nb)) ∧ w.heap.size ≤ nb ∧ nb < B0 ∧ (xs.map (·.1)).Perm A ∧ Grps W' B0 nb lvl pd xs f vs
set_option maxRecDepth 20000 in
theorem on2_any (n : Nat) (F : Nat → Prop) (w : World) (a m lvl : Nat) (T : Int) (A : List (List (El (n + 2)))) (f : Lit → Option Value) (pd : List (El (n + 2)) → Nat × Int) (h1 : Arc2 w a m T) (hM : MapF w Tryz.prog 9 m A.length f) (hpd : PdOf w F f A pd) (hK : ∀ k, (f k).isSome = true ↔ ∃ l ∈ A, k = keyS (nm 3 l)) (hG : Good A) (hlv : lvl < 4) (hV : NamesV w) :
    Calls Tryz.prog 104 #[ptr a, .int .i64 lvl] w (OnEnd2 w lvl A pd) := by
  obtain ⟨⟨a0, _⟩, _⟩ := h1.cells
  have u1 : Below w.heap.size w (w.alloc (.cells #[.map (some m)] 122)) := Below.alloc (Below.refl _ _) (Nat.le_refl _) _
  have c1 := byName_any A pd F (w.alloc (.cells #[.map (some m)] 122)) 226 #[.pointer (some ⟨w.heap.size, 0, none⟩)] lvl hlv (fun xs => (xs.map (·.1)).Perm A) A.length hG.1 (enters_of Tryz.func226 (by kernel_rfl) rfl)
    (fun W0 hB0 hsz => fun l J Jx W hW hJ _ hY h0 => by
      have hWz := hW.size
      have hu : Below (w.alloc (.cells #[.map (some m)] 122)).heap.size (w.alloc (.cells #[.map (some m)] 122)) W := hB0.trans (hW.mono hB0.size)
      have hml := hM.lt
      rw [World.size_alloc] at hsz
      exact values1_in Fence.wide 8 trivial rfl (by omega) l w.heap.size m _ _ A f pd J Jx hY W hJ ((hu.cell (by simp)).trans (by simp)) (hM.kept ((hu.block m (by simp; omega)).trans (Below.heap_alloc _ _ _ hml))) hK (fun l hl => (hpd l hl).1) hG.2.1 (by rw [World.size_alloc]; omega) (by rw [World.size_alloc]; omega) h0)
    (fun l hl => ((hpd l hl).2).up u1) (fun l hl => nm_short (n := n + 1) (hG.2.2 l hl).1 lvl) (hV.up u1)
  have C1 := hid c1
  have U1 := hid u1
  clear c1 hpd u1 hM hK hG hV h1
  go_enter Tryz.func104, Tryz.ntmps104
  go_wp2_with fail
  go_at_call 172
  refine (mapsValues_any w (some m)).mono ?_
  rintro e w1 ⟨rfl, rfl⟩
  go_wp2_with fail
  go_at_call 171
  refine C1.out.mono ?_
  rintro e w2 ⟨rfl, u2, xs, f', vs, hS, hGr⟩
  have U2 := hid (U1.out.trans (u2.mono U1.out.size))
  have HS := hid hS
  rw [World.size_alloc] at hGr
  have HGr := hid hGr
  clear u2 hS hGr C1
  go_wp2
  go_ret
  exact ⟨U2.out, _, _, xs, f', vs, rfl, by omega, by omega, HS.out, HGr.out⟩
end Go.Proofs.YtaokifbpakbgdaaGreatDoor

/- Package archive: countIn. -/
namespace Go.Proofs.YtaokifbpakbgdaaGreatDoor
open Go.RowKit Go.Maps Go.Shelf

/-- How many there are one level below of what has a name on a level. -/
def cntB {n : Nat} (A : List (List (El (n + 1)))) (i : Nat) (s : By) : Nat := cntA (A.filter (fun o => nm i o == s)) (i + 1)
theorem seenA_perm {n : Nat} (i : Nat) {L M : List (List (El (n + 1)))} (h : L.Perm M) : (seenA i L []).length = (seenA i M []).length :=
  ((List.perm_ext_iff_of_nodup (seenA_nodup i L [] List.nodup_nil) (seenA_nodup i M [] List.nodup_nil)).2 (fun x => by
    rw [seenA_mem, seenA_mem]
    constructor
    · rintro (h1 | ⟨o, h1, h2⟩)
      · exact Or.inl h1
      · exact Or.inr ⟨o, h.mem_iff.1 h1, h2⟩
    · rintro (h1 | ⟨o, h1, h2⟩)
      · exact Or.inl h1
      · exact Or.inr ⟨o, h.mem_iff.2 h1, h2⟩)).length_eq
theorem Grps.keysL {n : Nat} {A : List (List (El (n + 2)))} {W : World} {B0 nb lvl : Nat} {pd : List (El (n + 2)) → Nat × Int} {xs : List (Of A)} {f : Lit → Option Value} {vs : By → Value} (h : Grps W B0 nb lvl pd xs f vs) : ∀ kl, kl ∈ (seenA lvl (xs.map (·.1)) []).map keyS ↔ (f kl).isSome = true := by
  obtain ⟨_, h2, h3, _, h5⟩ := h
  have hg : ∀ s, grp lvl s xs ≠ [] ↔ s ∈ seenA lvl (xs.map (·.1)) [] := fun s => by
    rw [grp_ne, seenA_mem]
    constructor
    · rintro ⟨x, hx, e⟩
      exact .inr ⟨x.1, List.mem_map.2 ⟨x, hx, rfl⟩, e⟩
    · rintro (h | ⟨o, ho, e⟩)
      · cases h
      · obtain ⟨x, hx, rfl⟩ := List.mem_map.1 ho
        exact ⟨x, hx, e⟩
  intro kl
  rw [List.mem_map]
  constructor
  · rintro ⟨s, hs, rfl⟩
    rw [(h3 s ((hg s).2 hs)).1]; rfl
  · intro hs
    obtain ⟨s, rfl⟩ := h5 kl hs
    refine ⟨s, (hg s).1 (fun e => ?_), rfl⟩
    rw [h2 s e] at hs
    cases hs
theorem grp_perm {n : Nat} {A : List (List (El (n + 2)))} {xs : List (Of A)} (hp : (xs.map (·.1)).Perm A) (i : Nat) (s : By) : ((grp i s xs).map (·.1)).Perm (A.filter (fun o => nm i o == s)) := by
  have := hp.filter (fun o => nm i o == s)
  rw [List.filter_map] at this
  exact this
set_option maxRecDepth 20000 in
set_option maxHeartbeats 2000000 in
theorem countIn_any (n : Nat) (F : Nat → Prop) (w : World) (a m i : Nat) (T : Int) (A : List (List (El (n + 2)))) (f : Lit → Option Value) (pd : List (El (n + 2)) → Nat × Int) (s : By) (h1 : Arc2 w a m T) (hM : MapF w Tryz.prog 9 m A.length f) (hpd : PdOf w F f A pd) (hK : ∀ k, (f k).isSome = true ↔ ∃ l ∈ A, k = keyS (nm 3 l)) (hG : Good A) (hlv : i < 3) (hs : ∃ l ∈ A, nm i l = s) (hV : NamesV w) :
    Calls Tryz.prog 184 #[ptr a, .int .i64 i, .string (bs s)] w fun e w' => e = .returned (.int .i64 (cntB A i s)) ∧ Below w.heap.size w w' := by
  have HPD := hid hpd
  have HG := hid hG
  have HV := hid hV
  have hsl : s.length ≤ 64 := by obtain ⟨l, hl, rfl⟩ := hs; exact nm_short (n := n + 1) (hG.2.2 l hl).1 i
  have HS := hid hs
  have C1 := hid (on2_any n F w a m i T A f pd h1 hM hpd hK hG (by omega) hV)
  clear hpd hG hV hs h1 hM hK
  go_enter Tryz.func184, Tryz.ntmps184
  go_wp2_with fail
  go_at_call 104
  refine C1.out.mono ?_
  rintro e w2 ⟨u2, nb, B0, xs, f2, vs, rfl, hnb, hB0, hp, hGr⟩
  have hne : grp i s xs ≠ [] := by
    obtain ⟨l, hl, hls⟩ := HS.out
    obtain ⟨x, hx, rfl⟩ := List.mem_map.1 (hp.symm.subset hl)
    exact grp_ne.2 ⟨x, hx, hls⟩
  obtain ⟨hf2, hrow⟩ := hGr.2.2.1 s hne
  obtain ⟨ad, cap, hvs⟩ := row_sl hrow
  rw [hvs] at hf2 hrow
  have hlk : (Instr.lookup 136 (.map (some nb)) (.string (bs s)) false).run Tryz.prog w2 = .ok (.slice ad (grp i s xs).length cap) w2 := by
    have := hGr.1.look1 (Maps.string_keyed Tryz.underlying9) Tryz.underlying136 (Tryz.zeroValue144 _) (key := .string (bs s)) (kl := keyS s) (WideMaps.keyOf_string_mk Tryz.underlying9 (by rw [bs_size]; unfold maxLen; omega))
    rw [hf2] at this
    exact this
  have hlen : (grp i s xs).length ≤ 48 := by
    have e1 := (grp_perm hp i s).length_eq
    rw [List.length_map] at e1
    rw [e1]
    exact Nat.le_trans (List.length_filter_le _ _) HG.out.1
  have u3 : Below w2.heap.size w2 (w2.alloc (.cells #[.slice ad (grp i s xs).length cap] 144)) := Below.alloc (Below.refl _ _) (Nat.le_refl _) _
  have U3 := hid (u2.trans (u3.mono u2.size))
  have c3 := byName_any A pd F (w2.alloc (.cells #[.slice ad (grp i s xs).length cap] 144)) 277 #[.pointer (some ⟨w2.heap.size, 0, none⟩)] (i + 1) (by omega) (fun ys => ys = grp i s xs) (grp i s xs).length hlen (enters_of Tryz.func277 (by kernel_rfl) rfl)
    (fun W0 hB0 hsz => fun l J Jx W hW hJ _ hY h0 => by
      have hWz := hW.size
      have hu : Below (w2.alloc (.cells #[.slice ad (grp i s xs).length cap] 144)).heap.size (w2.alloc (.cells #[.slice ad (grp i s xs).length cap] 144)) W := hB0.trans (hW.mono hB0.size)
      have hlt : ∀ j ∈ (Value.slice ad (grp i s xs).length cap).ownBlock.toList, j < w2.heap.size := fun j hj => ownsRow_lt hrow j hj
      rw [World.size_alloc] at hsz
      exact svalues_in Fence.wide 8 trivial rfl (by omega) l w2.heap.size _ _ B0 (grp i s xs).length A pd J Jx _ (grp i s xs) (Nat.le_refl _) hlen hY W hJ ((hu.cell (by simp)).trans (by simp)) (ownsRow_keep hrow (fun j hj => (hu.block j (by have := hlt j hj; simp; omega)).trans (u3.block j (hlt j hj)))) (fun j hj => by have := hlt j hj; simp; omega) (by simp; omega) h0)
    (fun l hl => (HPD.out l hl).2.up U3.out) (fun l hl => nm_short (n := n + 1) (HG.out.2.2 l hl).1 (i + 1)) (HV.out.up U3.out)
  have C3 := hid c3
  have HP := hid hp
  have wrapE : IntKind.i64.wrap ((i : Int) + 1) = ((i + 1 : Nat) : Int) := by
    rcases (show i = 0 ∨ i = 1 ∨ i = 2 by omega) with rfl | rfl | rfl <;> decide
  clear c3 hGr hrow u2 u3 hp hf2 C1
  go_wp2_with fail
  go_at_call 236
  refine (slicesValues_any _ _ _ _).mono ?_
  rintro e w3 ⟨rfl, rfl⟩
  go_wp2_with fail
  go_at_call 171
  refine C3.out.mono ?_
  rintro e w4 ⟨rfl, u4, ys, f4, vs4, rfl, hG4⟩
  have U4 := hid (U3.out.trans (u4.mono U3.out.size))
  have hle : ∀ ty, (Builtin.len_ #[136] ty #[.map (some (w2.heap.size + 1 + 1))]).run Tryz.prog w4 = .ok (.int .i64 (cntB A i s)) w4 := fun ty => by
    have := hG4.1.len (Maps.string_keyed Tryz.underlying9) Tryz.underlying136 (keyS_nodup (seenA_nodup (i + 1) ((grp i s xs).map (·.1)) [] List.nodup_nil)) hG4.keysL ty
    rw [List.length_map, seenA_perm (i + 1) (grp_perm HP.out i s)] at this
    rw [World.size_alloc] at this
    exact this
  clear hG4 u4 C3
  go_wp2
  go_ret
  exact ⟨rfl, U4.out⟩
end Go.Proofs.YtaokifbpakbgdaaGreatDoor

/- Package archive: tell. -/
namespace Go.Proofs.YtaokifbpakbgdaaGreatDoor
open Go.RowKit Go.Maps Go.Shelf

/-- The tags of the counts lie there. -/
def CountsV (w : World) : Prop := ∀ i, i < 3 → w.cell? ⟨2, i, none⟩ = some (.int .i64 (cntT i))
theorem CountsV.up {w w' : World} (h : CountsV w) (k : Below w.heap.size w w') : CountsV w' := fun i hi => (k.cell (World.block_lt_of_cell? _ _ (h i hi))).trans (h i hi)
/-- An archive in memory, by what its map leads to. -/
def ArcD {n : Nat} (w : World) (F : Nat → Prop) (a m : Nat) (T : Int) (A : List (List (El (n + 2)))) (f : Lit → Option Value) (pd : List (El (n + 2)) → Nat × Int) : Prop := Arc2 w a m T ∧ MapF w Tryz.prog 9 m A.length f ∧ PdOf w F f A pd
theorem ArcD.up {n : Nat} {w w' : World} {F : Nat → Prop} {a m : Nat} {T : Int} {A : List (List (El (n + 2)))} {f : Lit → Option Value} {pd : List (El (n + 2)) → Nat × Int} (h : ArcD w F a m T A f pd) (k : Below w.heap.size w w') : ArcD w' F a m T A f pd :=
  ⟨h.1.keep (k.block _ h.1.lt), h.2.1.kept (k.block _ h.2.1.lt), h.2.2.up k⟩
/-- What something is told to have: its description, its level, its counts. -/
def tellN {n : Nat} (A : List (List (El (n + 2)))) (lvl : Nat) (l : List (El (n + 2))) : Nat → Int → Option (El (n + 2))
  | 0 => updG (descG l) 524370 (524370, kindT 524370, wordL lvl, [])
  | k + 1 => updG (tellN A lvl l k) (cntT k) (cntT k, kindT (cntT k), Lib.decDigits (cntB A k (nm k l)), [])
theorem tellN_name {n : Nat} (A : List (List (El (n + 2)))) (lvl : Nat) (l : List (El (n + 2))) {k i : Nat} (hk : k ≤ 3) (hi : i < 4) : tellN A lvl l k (nameT i) = descG l (nameT i) := by
  rcases (show i = 0 ∨ i = 1 ∨ i = 2 ∨ i = 3 by omega) with rfl | rfl | rfl | rfl <;> rcases (show k = 0 ∨ k = 1 ∨ k = 2 ∨ k = 3 by omega) with rfl | rfl | rfl | rfl <;> simp [tellN, updG, nameT, cntT]
theorem valG_tell {n : Nat} (A : List (List (El (n + 2)))) (lvl : Nat) (l : List (El (n + 2))) {k i : Nat} (hk : k ≤ 3) (hi : i < 4) : valG (tellN A lvl l k) (nameT i) = nm i l := by
  rw [← valG_desc]
  unfold valG
  rw [tellN_name A lvl l hk hi]
theorem cntB_le {n : Nat} (A : List (List (El (n + 1)))) (i : Nat) (s : By) : cntB A i s ≤ A.length := Nat.le_trans (cntA_le _ _) (List.length_filter_le _ A)
theorem cntT_bd (k : Nat) : -9223372036854775808 ≤ cntT k ∧ cntT k ≤ 9223372036854775807 := by
  unfold cntT
  split
  · decide
  split
  · decide
  split
  · decide
  · decide
abbrev cntsVl : Value := .agg #[.int .i64 2101760, .int .i64 2101766, .int .i64 2101769]
set_option maxRecDepth 20000 in
set_option maxHeartbeats 4000000 in
theorem tell_any (n : Nat) (F : Nat → Prop) (w : World) (a m lvl base : Nat) (T : Int) (A : List (List (El (n + 2)))) (f : Lit → Option Value) (pd : List (El (n + 2)) → Nat × Int) (v : Value) (ys : List (Of A)) (h1 : ArcD w F a m T A f pd) (hK : ∀ k, (f k).isSome = true ↔ ∃ l ∈ A, k = keyS (nm 3 l)) (hG : Good A) (hlv : lvl < 4) (hrow : w.ownsRow base 131 2 v ys.length (rowP pd ys)) (hy : 0 < ys.length) (hy2 : ys.length ≤ 48) (hV : NamesV w) (hL : LevelsV w) (hC : CountsV w) (hF : ∀ j, F j → j < w.heap.size) :
    Calls Tryz.prog 112 #[ptr a, .int .i64 lvl, v] w fun e w' => ∃ c y, IsLast pd ys y ∧ e = .returned (.map (some c)) ∧ w.heap.size ≤ c ∧ Below w.heap.size w w' ∧ DMk w' F (n + 1) c 28 (tellN A lvl y.1 3) := by
  have C1 := hid (last_any A pd w base v ys hrow hy hy2)
  obtain ⟨ad, cap, rfl⟩ := row_sl hrow
  have H1 := hid h1
  have HK := hid hK
  have HG := hid hG
  have HV := hid hV
  have HL := hid hL
  have HC := hid hC
  have HF := hid hF
  clear h1 hK hG hV hL hC hF hrow hy
  have hfld : ∀ (d : Nat) (t : Int) (W : World), (Instr.field 131 (.agg #[.map (some d), .int .i64 t]) 0).run Tryz.prog W = .ok (.map (some d)) W := fun d t W => by kernel_rfl
  go_enter Tryz.func112, Tryz.ntmps112
  go_wp2_with fail
  go_at_call 181
  refine C1.out.mono ?_
  rintro e w1 ⟨y, hyl, rfl, u1⟩
  have HY := hid hyl
  have U1 := hid u1
  have C2 := hid (mclone_any w1 F (n + 1) (pd y.1).1 24 (descG y.1) (((H1.out.up u1).2.2 y.1 y.2).2))
  clear hyl u1 C1
  unfold picV
  have hfy := hfld (pd y.1).1 (pd y.1).2 w1
  go_wp2_with fail
  go_at_call 180
  refine C2.out.mono ?_
  rintro e w2 ⟨rfl, u2, hD2⟩
  have U2 := hid (U1.out.trans (u2.mono U1.out.size))
  have D2 := hid hD2
  have hcl := D2.out.lt
  have hlo1 := U1.out.size
  have hlev := (HL.out.up U2.out) lvl hlv
  have hlv2 : ((lvl : Nat) : Int) < 4 := by omega
  clear u2 hD2 C2 hfy
  go_wp2_with fail
  go_at_call 182
  refine (put_any w2 F (n + 1) w1.heap.size 24 (descG y.1) 524370 (wordL lvl) D2.out (by omega) (fun j hj e => by have := HF.out j hj; omega) (by decide)).mono ?_
  rintro e w3 ⟨rfl, hg3, hD3⟩
  have U3 := hid (U2.out.grown hg3 U2.out.size (fun k e => by cases e; exact hlo1))
  have D3 := hid (show DMk w3 F (n + 1) w1.heap.size (25 + 0) (tellN A lvl y.1 0) from hD3)
  have n0 : w3.cell? ⟨2, 0, none⟩ = some (.int .i64 2101760) := (HC.out.up U3.out) 0 (by omega)
  have n1 : w3.cell? ⟨2, 1, none⟩ = some (.int .i64 2101766) := (HC.out.up U3.out) 1 (by omega)
  have n2 : w3.cell? ⟨2, 2, none⟩ = some (.int .i64 2101769) := (HC.out.up U3.out) 2 (by omega)
  clear hg3 hD3 D2 hlev
  go_wp2_with fail
  go_loopw [20] (fun i wr => ∃ k : Nat, k ≤ 3 ∧ i = .int .i64 k ∧ Hid (Below w.heap.size w wr) ∧ Hid (DMk wr F (n + 1) w1.heap.size (25 + k) (tellN A lvl y.1 k))) (fun i _ => 3 - (intOf i).toNat)
  case atStart => exact ⟨0, by omega, rfl, U3, D3⟩
  case round =>
    obtain ⟨k, hk, rfl, hU, hD⟩ := hrel
    by_cases hkl : k < 3
    · have hix : (Instr.index 217 cntsVl (.int .i64 k)).run Tryz.prog wr = .ok (.int .i64 (cntT k)) wr := by
        rcases (show k = 0 ∨ k = 1 ∨ k = 2 by omega) with rfl | rfl | rfl <;> kernel_rfl
      have hnk := (HV.out.up hU.out) k (by omega)
      have hk4 : (k : Int) < 4 := by omega
      have C3 := hid (dvalue_any wr F (n + 1) w1.heap.size (25 + k) (tellN A lvl y.1 k) (nameT k) hD.out (nameT_bd k))
      have hvt := hid (valG_tell A lvl y.1 (k := k) (i := k) (by omega) (by omega))
      rw [hvt.out] at C3
      obtain ⟨q1, q2, q3⟩ := H1.out.up hU.out
      have C4 := hid (countIn_any n F wr a m k T A f pd (nm k y.1) q1 q2 q3 HK.out HG.out (by omega) ⟨y.1, y.2, rfl⟩ (HV.out.up hU.out))
      have hcb := hid (show cntB A k (nm k y.1) < 100 from Nat.lt_of_le_of_lt (cntB_le A k _) (by have := HG.out.1; omega))
      clear q1 q2 q3 hvt
      go_wp2_with fail
      go_at_call 97
      refine C3.out.mono ?_
      rintro e w4 ⟨rfl, rfl⟩
      go_wp2_with fail
      go_at_call 184
      refine C4.out.mono ?_
      rintro e w5 ⟨rfl, u5⟩
      have U5 := hid (hU.out.trans (u5.mono hU.out.size))
      have D5 := hid (hD.out.up u5)
      clear u5 C3 C4
      go_wp2_with fail
      go_at_call 183
      refine (Tryz.strconv_Itoa_small _ hcb.out _).mono ?_
      rintro e w6 ⟨rfl, rfl⟩
      go_wp2_with fail
      go_at_call 182
      refine (put_any w6 F (n + 1) w1.heap.size (25 + k) (tellN A lvl y.1 k) (cntT k) (Lib.decDigits (cntB A k (nm k y.1))) D5.out (by omega) (fun j hj e => by have := HF.out j hj; omega) (cntT_bd k)).mono ?_
      rintro e w7 ⟨rfl, hg7, hD7⟩
      have U7 := hid (U5.out.grown hg7 U5.out.size (fun k e => by cases e; exact hlo1))
      have D7 := hid (show DMk w7 F (n + 1) w1.heap.size (25 + (k + 1)) (tellN A lvl y.1 (k + 1)) from hD7)
      clear hg7 hD7
      go_wp2
      go_roundw
      case rel => exact ⟨k + 1, by omega, by go_num, U7, D7⟩
      case measure => simp [intOf]; omega
    · obtain rfl : k = 3 := by omega
      go_wp2
      go_ret
      exact ⟨_, y, HY.out, rfl, hlo1, hU.out, hD.out⟩
end Go.Proofs.YtaokifbpakbgdaaGreatDoor

/- How long the bytes of a data set can be (no program). -/
namespace Go.Proofs.YtaokifbpakbgdaaGreatDoor

def bnd (p : Nat) : Nat → Nat
  | 0 => 0
  | n + 1 => 24 * (300 + 2 * p + 8 * (16 + bnd p n))
theorem flat_bound {α : Type} {e : α → By} {B : Nat} : ∀ {l : List α}, (∀ x ∈ l, (e x).length ≤ B) → ((l.map e).flatten).length ≤ l.length * B
  | [], _ => by simp
  | x :: l, h => by
    have h1 := h x List.mem_cons_self
    have h2 := flat_bound (e := e) (l := l) (fun y hy => h y (List.mem_cons_of_mem _ hy))
    simp only [List.map_cons, List.flatten_cons, List.length_append, List.length_cons]
    rw [Nat.succ_mul]
    omega
theorem wrV_len (p : Nat) (k v : By) : (wrV p k v).length = v.length + (v.length % 2 + 2 * p) := by rw [wrV_eq]; simp
theorem wrS_bound (o : Bool) (p : Nat) : ∀ (n d : Nat) (l : List (El n)), errS n d l = 0 → (wrS o p n l).length ≤ bnd p n
  | 0, _, _, _ => by simp [wrS]
  | n + 1, d, l, h => by
    rw [errS] at h
    by_cases h24 : 24 < l.length
    · rw [if_pos h24] at h; cases h
    rw [if_neg h24] at h
    rw [wrS_succ, bnd]
    have hx : ∀ x ∈ l, (wrE (wrS o p n) o p x).length ≤ 300 + 2 * p + 8 * (16 + bnd p n) := by
      intro x hx
      obtain ⟨b, hb⟩ := errL_mem h x hx
      obtain ⟨e1, e2, e3, e4, e5, e6, e7, e8, e9, e10, e11, e12⟩ := errE_ok hb
      have hk := isK_length e1
      have hT : (wrT x.1).length = 4 := by simp [wrT, lows_length]
      unfold wrE
      rw [List.length_append, List.length_append, hT, hk]
      by_cases hq : x.2.1 = SQ
      · rw [if_pos hq]
        have hits := flat_bound (e := wrI (wrS o p n) o) (B := 16 + bnd p n) (l := x.2.2.2) (fun s hs => by
          have := wrS_bound o p n (d + 1) s (errI_mem e12 s hs)
          unfold wrI sizeB
          cases o <;> simp [lows_length] <;> omega)
        have h8 : x.2.2.2.length * (16 + bnd p n) ≤ 8 * (16 + bnd p n) := Nat.mul_le_mul_right _ e10
        unfold wrQ sizeB
        cases o <;> simp only [List.length_append, lows_length, List.length_cons, List.length_nil, if_true, if_false, Bool.false_eq_true] <;> omega
      · rw [if_neg hq, List.length_append, lows_length, wrV_len]
        omega
    have := flat_bound hx
    have h3 : l.length * (300 + 2 * p + 8 * (16 + bnd p n)) ≤ 24 * (300 + 2 * p + 8 * (16 + bnd p n)) := Nat.mul_le_mul_right _ (by omega)
    omega
end Go.Proofs.YtaokifbpakbgdaaGreatDoor

/- Package archive: a description is asked: fits, answer. -/
namespace Go.Proofs.YtaokifbpakbgdaaGreatDoor
open Go.RowKit Go.Maps Go.Shelf

def itsG {n : Nat} (g : Int → Option (El (n + 1))) (t : Int) : Its n := match g t with
  | some x => x.2.2.2
  | none => []
theorem DMk.look {w : World} {F : Nat → Prop} {n b m : Nat} {g : Int → Option (El (n + 1))} (h : DMk w F n b m g) {t : Int} (ht : -9223372036854775808 ≤ t ∧ t ≤ 9223372036854775807) :
    ∃ (t2 : Int) (kd2 : By) (ad2 : Option Addr) (m2 c2 : Nat), (Instr.lookup 127 (.map (some b)) (.int .i64 t) false).run Tryz.prog w = .ok (.agg #[.int .i64 t2, .string (bs kd2), .string (bs (valG g t)), .slice ad2 m2 c2]) w ∧ RdI w F n (.slice ad2 m2 c2) (itsG g t) := by
  obtain ⟨f, hM, hc⟩ := h
  have hc := hc t
  have hl := hM.look1 (Maps.int_keyed Tryz.underlying3) Tryz.underlying127 (Tryz.zeroValue73 _) (key := .int .i64 t) (kl := .int .i64 t) (Maps.keyOf_int_mk Tryz.underlying3 (int_wf ht))
  unfold valG itsG
  cases hg : g t with
  | none =>
    cases hf : f (.int .i64 t) with
    | some v => rw [hg, hf] at hc; exact hc.elim
    | none =>
      rw [hf] at hl
      exact ⟨0, [], none, 0, 0, hl, RdI.nil _ _ _⟩
  | some x =>
    cases hf : f (.int .i64 t) with
    | none => rw [hg, hf] at hc; exact hc.elim
    | some v =>
      rw [hg, hf] at hc
      obtain ⟨iv, rfl, hi⟩ := hc
      obtain ⟨ad, cap, rfl⟩ := hi.slice
      rw [hf] at hl
      exact ⟨x.1, x.2.1, ad, _, cap, hl, hi⟩
/-- What a description may have. -/
def GoodG {n : Nat} (g : Int → Option (El (n + 2))) : Prop := ∀ t, (valG g t).length ≤ 64 ∧ (itsG g t).length ≤ 8 ∧ ∀ s ∈ itsG g t, s.length ≤ 24 ∧ ∀ y ∈ s, y.2.2.1.length ≤ 64
/-- What keys may have. -/
def GoodQ {n : Nat} (q : List (El (n + 2))) : Prop := q.length ≤ 24 ∧ ∀ x ∈ q, (0 ≤ x.1 ∧ x.1 ≤ 4294967295) ∧ x.2.2.1.length ≤ 64 ∧ x.2.2.2.length ≤ 8 ∧ ∀ a ∈ x.2.2.2, a.length ≤ 24 ∧ ∀ y ∈ a, y.2.1 ≠ SQ ∧ y.2.2.1.length ≤ 64
def fitD1 {n : Nat} (g : Int → Option (El (n + 2))) (x : El (n + 2)) : Bool := fitK x (valG g x.1) (itsG g x.1)
def fitD {n : Nat} (g : Int → Option (El (n + 2))) (q : List (El (n + 2))) : Bool := q.all (fitD1 g)
set_option maxRecDepth 20000 in
set_option maxHeartbeats 2000000 in
theorem dfits_any (n : Nat) (F G : Nat → Prop) (w : World) (c m : Nat) (g : Int → Option (El (n + 2))) (v : Value) (q : List (El (n + 2))) (h1 : DMk w G (n + 1) c m g) (h2 : Rd w F (n + 2) v q) (hg : GoodG g) (hq : GoodQ q) (hv : Vars w) :
    Calls Tryz.prog 113 #[.map (some c), v] w fun e w' => e = .returned (.bool (fitD g q)) ∧ Below w.heap.size w w' := by
  obtain ⟨ad, cap, rfl⟩ := h2.slice
  have H1 := hid h1
  have H2 := hid h2
  have HG := hid hg
  have HQ := hid hq
  have V := hid hv
  have hl := hq.1
  clear h1 h2 hg hq hv
  go_enter Tryz.func113, Tryz.ntmps113
  go_wp2_with fail
  go_loopw [9] (fun i wr => ∃ k : Nat, k ≤ q.length ∧ i = .int .i64 k ∧ Hid (Below w.heap.size w wr) ∧ Hid (fitD g q = (q.drop k).all (fitD1 g))) (fun i _ => q.length - (intOf i).toNat)
  case atStart => exact ⟨0, Nat.zero_le _, rfl, Below.refl _ _, rfl⟩
  case round =>
    obtain ⟨k, hk, rfl, hU, hE⟩ := hrel
    by_cases hkl : k < q.length
    · have hat := hid ((H2.out.up hU.out).at (List.getElem?_eq_getElem hkl))
      obtain ⟨a3, ad3, cap3, rfl, _, d0, d1, d2, d3, hrd⟩ := hat.out
      have hx := hid (HQ.out.2 _ (List.getElem_mem hkl))
      have hst := hid (hE.out.trans (all_drop _ hkl))
      have hrd2 := hid hrd
      clear hat hE hrd
      generalize q[k] = x at d0 d1 d2 d3 hx hst hrd2
      have u2 := Below.alloc (Below.refl wr.heap.size wr) (Nat.le_refl _) (.cells #[.int .i64 x.1, .string (bs x.2.1), .string (bs x.2.2.1), .slice ad3 x.2.2.2.length cap3] 73)
      have hX := (Four.new wr (.int .i64 x.1) (.string (bs x.2.1)) (.string (bs x.2.2.1)) (.slice ad3 x.2.2.2.length cap3)).cells
      obtain ⟨⟨x0, x1, x2, x3⟩, _⟩ := hX
      have U2 := hid (hU.out.trans (u2.mono hU.out.size))
      obtain ⟨t2, kd2, ad2, m2, c2, hlk, hit⟩ := (H1.out.up U2.out).look (t := x.1) (by have := hx.out.1; omega)
      have hgx := hid (HG.out x.1)
      have C := hid (fitsKey_any n F G _ x ad3 x.2.2.2.length cap3 t2 kd2 (valG g x.1) ad2 m2 c2 (itsG g x.1) (hrd2.out.up u2) hit hx.out.2.1 hgx.out.1 hgx.out.2.1 hx.out.2.2.1 hgx.out.2.2 hx.out.2.2.2 (V.out.up U2.out))
      have hF1 := hid (show fitD1 g x = fitK x (valG g x.1) (itsG g x.1) from rfl)
      clear u2 hit hrd2 hgx
      generalize valG g x.1 = vl at *
      go_wp2_with fail
      go_at_call 185
      refine C.out.mono ?_
      rintro e w4 ⟨rfl, u4⟩
      have U4 := hid (U2.out.trans (u4.mono U2.out.size))
      clear u4 C
      rw [← hF1.out]
      generalize fitD1 g x = b at hst ⊢
      cases b
      · go_wp2
        go_ret
        rw [hst.out]
        exact ⟨rfl, U4.out⟩
      · go_wp2
        go_roundw
        case rel => exact ⟨k + 1, by omega, by go_num, U4, hst⟩
        case measure => simp [intOf]; omega
    · have hF := hid (show fitD g q = true by rw [hE.out, List.drop_eq_nil_of_le (by omega)]; rfl)
      clear hE
      go_wp2
      go_ret
      rw [hF.out]
      exact ⟨rfl, hU.out⟩
/-- What a description answers to keys. -/
def ansE {n : Nat} (g : Int → Option (El (n + 2))) (x : El (n + 2)) : El (n + 2) := (x.1, x.2.1, valG g x.1, itsG g x.1)
def ansB {n : Nat} (g : Int → Option (El (n + 2))) (q : List (El (n + 2))) : By := wrS false 0 (n + 2) (q.map (ansE g))
set_option maxRecDepth 20000 in
set_option maxHeartbeats 2000000 in
theorem danswer_any (F G : Nat → Prop) (w : World) (c m : Nat) (g : Int → Option (El 3)) (v : Value) (q : List (El 3)) (h1 : DMk w G 2 c m g) (h2 : Rd w F 3 v q) (hq : GoodQ q) (hok : errS 3 0 (q.map (ansE g)) = 0) (hG : ∀ j, G j → j < w.heap.size) :
    Calls Tryz.prog 116 #[.map (some c), v] w fun e w' => e = .returned (.string (bs (ansB g q))) ∧ Below w.heap.size w w' := by
  obtain ⟨ad, cap, rfl⟩ := h2.slice
  obtain ⟨i0, hi0, hz0, hz1, hz2⟩ := info_parts info_element
  have HI := hid hi0
  have H1 := hid h1
  have H2 := hid h2
  have HQ := hid hq
  have HO := hid hok
  have HG := hid hG
  have hl := hq.1
  clear h1 h2 hq hok hG hi0
  go_enter Tryz.func116, Tryz.ntmps116
  go_wp2_with fail
  go_loopw [5, 13] (fun o i wr => ∃ (k : Nat) (xs : List Value), k ≤ q.length ∧ i = .int .i64 k ∧ Hid (wr.ownsRow w.heap.size 73 4 o k xs) ∧ Hid (Ls 4 (CpE w G 2) xs ((q.take k).map (ansE g)) []) ∧ Hid (Below w.heap.size w wr)) (fun _ i _ => q.length - (intOf i).toNat)
  case atStart => exact ⟨0, [], Nat.zero_le _, rfl, World.ownsRow_nil _ _ _ _, ⟨rfl, rfl⟩, Below.refl _ _⟩
  case round =>
    obtain ⟨k, xs, hk, rfl, hown, hls, hU⟩ := hrel
    by_cases hkl : k < q.length
    · have hat := hid ((H2.out.up hU.out).at (List.getElem?_eq_getElem hkl))
      obtain ⟨a3, ad3, cap3, rfl, _, d0, d1, d2, d3, _⟩ := hat.out
      have hx := hid (HQ.out.2 _ (List.getElem_mem hkl))
      have hst := hid (show (q.take (k + 1)).map (ansE g) = (q.take k).map (ansE g) ++ [ansE g q[k]] by rw [List.take_succ_eq_append_getElem hkl, List.map_append]; rfl)
      clear hat
      generalize q[k] = x at d0 d1 d2 d3 hx hst
      obtain ⟨wA, rfl⟩ : ∃ wA, wA = wr := ⟨_, rfl⟩
      have u2 := Below.alloc (Below.refl wA.heap.size wA) (Nat.le_refl _) (.cells #[.int .i64 x.1, .string (bs x.2.1), .string (bs x.2.2.1), .slice ad3 x.2.2.2.length cap3] 73)
      have hX := (Four.new wA (.int .i64 x.1) (.string (bs x.2.1)) (.string (bs x.2.2.1)) (.slice ad3 x.2.2.2.length cap3)).cells
      obtain ⟨⟨x0, x1, x2, x3⟩, _⟩ := hX
      have U2 := hid (hU.out.trans (u2.mono hU.out.size))
      obtain ⟨t2, kd2, ad2, m2, c2, hlk, hit⟩ := (H1.out.up U2.out).look (t := x.1) (by have := hx.out.1; omega)
      have HIT := hid (hit.keep (w' := w) (fun _ h => h) (fun j hj _ => (U2.out.block j (HG.out j hj)).symm))
      have hA := hid (show ansE g x = (x.1, x.2.1, valG g x.1, itsG g x.1) from rfl)
      clear u2 hit
      generalize valG g x.1 = vl at *
      generalize itsG g x.1 = its at *
      have U3 := hid (Below.alloc U2.out U2.out.size (.cells #[.int .i64 t2, .string (bs kd2), .string (bs vl), .slice ad2 m2 c2] 73))
      have O3 := hid ((hown.out.alloc (.cells #[.int .i64 x.1, .string (bs x.2.1), .string (bs x.2.2.1), .slice ad3 x.2.2.2.length cap3] 73)).alloc (.cells #[.int .i64 t2, .string (bs kd2), .string (bs vl), .slice ad2 m2 c2] 73))
      go_wp2_with (at_builtin; refine wpList_append_own _ rfl _ _ 59 rfl w.heap.size 73 i0 zeroE 4 64 Tryz.underlying59 HI.out hz0 hz1 hz2 rfl (by decide) _ _ _ rfl (O3.out.alloc _) ⟨wA.heap.size + 1 + 1, 0, none⟩ 1 1 [.int .i64 x.1, .string (bs x.2.1), .string (bs vl), .slice ad2 m2 c2] rfl rfl (four_at _ _ _ _ _ _ _ (by simp)) four_one (by unfold maxLen; omega) (by omega) (by have := U3.out.size; simp only [World.size_alloc] at this ⊢; omega) ?_)
      intro v' w3 hown' hg hne
      have U4 := hid (up_grow U3.out O3.out _ hg)
      have O4 := hid hown'
      clear hown' hg
      go_wp2
      go_roundw
      case rel =>
        refine ⟨k + 1, xs ++ [.int .i64 x.1, .string (bs x.2.1), .string (bs vl), .slice ad2 m2 c2], by omega, by go_num, O4, ?_, U4⟩
        unfold Hid
        rw [hst.out]
        exact Ls.snoc (k := 4) (R := CpE w G 2) (c := [.int .i64 x.1, .string (bs x.2.1), .string (bs vl), .slice ad2 m2 c2]) (b := []) rfl (by rw [hA.out]; exact ⟨rfl, _, rfl, HIT.out⟩) hls.out
      case measure => simp [intOf]; omega
    · have hall : q.take k = q := List.take_of_length_le (by omega)
      have O := hid hown.out
      have L := hid hls.out
      rw [hall] at L
      obtain rfl : k = q.length := by omega
      obtain ⟨ad5, cap5, rfl⟩ := row_sl O.out
      have hb := hid (wrS_bound false 0 3 0 _ HO.out)
      have hRD := hid (rd_cp (F' := fun j => j < wr.heap.size) (n := 2) (l := q.map (ansE g)) ⟨xs, [], by rw [List.length_map]; exact ownsRow_low O.out, L.out, rfl⟩ hU.out (fun j hj => Nat.lt_of_lt_of_le (HG.out j hj) hU.out.size) (fun j hj => ownsRow_lt O.out j (by simpa using hj)))
      clear hown hls hall O L
      go_wp2_with fail
      go_at_call 37
      refine (Encode_any 3 (by decide) _ _ _ (q.map (ansE g)) (fun _ h => h) hRD.out (fun _ => Nat.le_trans hb.out (by decide))).mono ?_
      rintro e w5 ⟨u5, ⟨hbad, _⟩ | ⟨_, rfl⟩⟩
      · exact absurd HO.out hbad
      have U5 := hid (hU.out.trans (u5.mono hU.out.size))
      have hAB := hid (show wrS false 0 3 (q.map (ansE g)) = ansB g q from rfl)
      rw [hAB.out]
      clear u5 hRD hb
      generalize hG : ansB g q = bb
      have HGG := hid hG
      clear hG
      go_wp2
      go_ret
      rw [HGG.out]
      exact ⟨rfl, U5.out⟩
end Go.Proofs.YtaokifbpakbgdaaGreatDoor
