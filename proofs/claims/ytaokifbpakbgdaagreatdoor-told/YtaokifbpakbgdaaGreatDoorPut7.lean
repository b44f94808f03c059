/-
  Several texts in one; what each one has stands at its head.
-/
import Derived.Test.YtaokifbpakbgdaaGreatDoorPut6
import Derived.Laws.BytesArg
import Derived.Test.YtaokifbpakbgdaaGreatDoorPut5
/- Package dataset's appendSet, appendItems and Encode. -/
namespace Go.Proofs.YtaokifbpakbgdaaGreatDoor
open Go.RowKit

/-- What is asked of appendSet, at a depth. -/
def SetW (n : Nat) : Prop := ∀ (F : Nat → Prop) (w : World) (v sv : Value) (b : By) (l : List (El n)) (d : Nat), (∀ j, F j → j < w.heap.size) → (∀ j ∈ v.ownBlock.toList, ¬ F j) → Rd w F n sv l → errS n d l = 0 → d ≤ 2 → 3 ≤ d + n → B8 w v b →
  b.length + (wrS false 0 n l).length ≤ 274877906944 → Calls Tryz.prog 64 #[v, sv] w (W8 w v (b ++ wrS false 0 n l))
/-- While bytes are written the data set stays. -/
theorem Gr.rd {w w' : World} {v v' : Value} {F : Nat → Prop} (g : Gr w v w' v') (h1 : ∀ j, F j → j < w.heap.size) (h2 : ∀ j ∈ v.ownBlock.toList, ¬ F j) :
    (∀ j, F j → j < w.heap.size → w'.heap[j]? = w.heap[j]?) ∧ (∀ j ∈ v'.ownBlock.toList, ¬ F j) ∧ (∀ j, F j → j < w'.heap.size) := by
  refine ⟨fun j hj hlt => g.1.block j hlt (fun e => h2 j (by rw [← e]; simp) hj), fun j hj hF => ?_, fun j hj => Nat.lt_of_lt_of_le (h1 j hj) g.1.size⟩
  rcases g.2 with m | m
  · exact h2 j (by rw [← m]; exact hj) hF
  · have := m j hj
    have := h1 j hF
    omega
theorem RdI.at {w : World} {F : Nat → Prop} {n : Nat} {ad : Option Addr} {len cap : Nat} {l : List (List (El n))} (h : RdI w F n (.slice ad len cap) l) {i : Nat} {x : List (El n)} (hx : l[i]? = some x) :
    ∃ a ad2 cap2, ad = some a ∧ F a.block ∧ w.cell? (a.add i) = some (.slice ad2 x.length cap2) ∧ Rd w F n (.slice ad2 x.length cap2) x := by
  obtain ⟨ad', cap', e, hc⟩ := h
  obtain ⟨a, rfl, hF, sv, h0, h1⟩ := hc i x hx
  obtain ⟨ad2, cap2, rfl⟩ := h1.slice
  simp only [Value.slice.injEq] at e
  rw [Nat.one_mul] at h0
  exact ⟨a, ad2, cap2, e.1, hF, h0, h1⟩
theorem flat_take {α : Type} (f : α → By) (l : List α) (k : Nat) (hk : k < l.length) : ((l.take (k + 1)).map f).flatten = ((l.take k).map f).flatten ++ f l[k] := by
  rw [List.take_succ_eq_append_getElem hk, List.map_append, List.flatten_append]
  simp
theorem flat_take_le {α : Type} (f : α → By) (l : List α) (k : Nat) : (((l.take k).map f).flatten).length ≤ ((l.map f).flatten).length := by
  conv => rhs; rw [← List.take_append_drop k l, List.map_append, List.flatten_append, List.length_append]
  omega
theorem appendItems_any (n : Nat) (H : SetW n) (F : Nat → Prop) (w : World) (v iv : Value) (b : By) (l : Its n) (d : Nat) (h1 : ∀ j, F j → j < w.heap.size) (h2 : ∀ j ∈ v.ownBlock.toList, ¬ F j) (h : RdI w F n iv l) (he : errI (errS n d) l = 0) (hd : d ≤ 2) (hn : 3 ≤ d + n)
    (hb : B8 w v b) (hl : b.length + ((l.map (wrI (wrS false 0 n) false)).flatten).length ≤ 274877906944) (hl8 : l.length ≤ 8) :
    Calls Tryz.prog 121 #[v, iv] w (W8 w v (b ++ (l.map (wrI (wrS false 0 n) false)).flatten)) := by
  obtain ⟨ad, cap, rfl⟩ := h.slice
  have hsets := errI_mem he
  go_enter Tryz.func121, Tryz.ntmps121
  go_wp2_with fail
  go_loopw [0, 9] (fun bv i wr => ∃ k : Nat, k ≤ l.length ∧ i = .int .i64 k ∧ Hid (B8 wr bv (b ++ ((l.take k).map (wrI (wrS false 0 n) false)).flatten)) ∧ Hid (Gr w v wr bv)) (fun _ i _ => l.length - (intOf i).toNat)
  case atStart => exact ⟨0, Nat.zero_le _, rfl, by unfold Hid; simpa using hb, Gr.of_below v (Below.refl _ _)⟩
  case round =>
    obtain ⟨k, hk, rfl, hbk, hgr⟩ := hrel
    by_cases hkl : k < l.length
    · obtain ⟨q1, q2, q3⟩ := hgr.out.rd h1 h2
      obtain ⟨a, ad2, cap2, rfl, hF, c0, hrd⟩ := (h.keep (fun _ h => h) q1).at (List.getElem?_eq_getElem hkl)
      have hgood := hsets l[k] (List.getElem_mem hkl)
      have hflat := hid (flat_take (wrI (wrS false 0 n) false) l k hkl)
      have hfl := flat_take_le (wrI (wrS false 0 n) false) l (k + 1)
      rw [hflat.out, List.length_append] at hfl
      generalize l[k] = x at hrd hgood c0 hflat hfl
      have hwl : (wrI (wrS false 0 n) false x).length = 8 + (wrS false 0 n x).length := by
        unfold wrI sizeB
        simp [lows_length]
        omega
      have hrd' := hid hrd
      have Q := hid (And.intro q2 q3)
      clear q1 q2 q3 hrd
      generalize hbb : b ++ ((l.take k).map (wrI (wrS false 0 n) false)).flatten = bb at hbk
      have hbbl : bb.length = b.length + (((l.take k).map (wrI (wrS false 0 n) false)).flatten).length := by rw [← hbb, List.length_append]
      have hbb' := hid hbb
      clear hbb
      have hal := Below.alloc (Below.refl wr.heap.size wr) (Nat.le_refl _) (.cells #[.slice ad2 x.length cap2] 182)
      have hX : (wr.alloc (.cells #[.slice ad2 x.length cap2] 182)).heap[wr.heap.size]? = some (.cells #[.slice ad2 x.length cap2] 182 (0, 0)) := heap_alloc_new _ _
      have hrdA := hid (hrd'.out.up hal)
      have hbkA := hid (hbk.out.below hal)
      have hgrA := hid (hgr.out.trans (Gr.of_below u0 hal))
      have hown0 := hid (ownsRow_lt hbk.out)
      clear hrd' hal
      go_wp2_with fail
      go_at_call 118
      refine (appendTag_any _ u0 bb 4294893568 hbkA.out (by omega) (by omega)).mono ?_
      generalize wr.alloc (.cells #[.slice ad2 x.length cap2] 182) = wA at hX hrdA hbkA hgrA ⊢
      rintro e w1 ⟨v1, rfl, hb1, g1⟩
      have hX1 : w1.heap[wr.heap.size]? = some (.cells #[.slice ad2 x.length cap2] 182 (0, 0)) := (g1.1.block _ (lt_of_block hX) (fun e => by have := hown0.out wr.heap.size (by rw [← e]; simp); omega)).trans hX
      have cX := cell_of_one hX1
      obtain ⟨p1, p2, p3⟩ := (hgrA.out.trans g1).rd h1 h2
      have hrd1 := hid (hrdA.out.keep (w' := w1) (F' := F) (fun _ h => h) (fun j hj hlt => g1.1.block j hlt (fun e => by
        have hq := hgrA.out.rd h1 h2
        exact hq.2.1 j (by rw [← e]; simp) hj)))
      have hP := hid p3
      clear p1 p2 p3 hX1 hX
      go_wp2_with fail
      go_at_call 64
      refine (H F w1 _ _ [] x d hP.out (fun j hj => by cases hj) hrd1.out hgood hd hn (B8.nil w1) (by simp; omega)).mono ?_
      rintro e w2 ⟨v2, rfl, hb2, g2⟩
      rw [List.nil_append] at hb2
      have hb2' := hid hb2
      have hb1' := hid (hb1.below g2.below)
      have hlt1 := hid (ownsRow_lt hb1)
      have g12 := hid ((hgrA.out.trans g1).trans (Gr.of_below v1 g2.below))
      have hsep : Hid (∀ k, v2.ownBlock = some k → v1.ownBlock ≠ some k) := fun j hj e => by
        have h1 := hlt1.out j (by rw [e]; simp)
        rcases g2.2 with m | m
        · rw [m] at hj; simp [Value.ownBlock] at hj
        · have := m j (by rw [hj]; simp); omega
      clear hb1 hb2 g1 g2
      have hl1 : (bb ++ wrT (4294893568 : Nat)).length = bb.length + 4 := by simp [wrT, lows_length]
      have heq := hid (show b ++ ((l.take (k + 1)).map (wrI (wrS false 0 n) false)).flatten = bb ++ wrT (4294893568 : Nat) ++ (lows 4 (wrS false 0 n x).length ++ wrS false 0 n x) by
        rw [hflat.out, ← List.append_assoc, hbb'.out, wrI, show wrT ((4294893568 : Nat) : Int) = [254, 255, 0, 224] by decide +kernel]
        simp [sizeB])
      generalize bb ++ wrT (4294893568 : Nat) = b4 at hb1' hl1 heq
      generalize wrS false 0 n x = xb at hb2' heq hwl
      go_wp2_with fail
      go_at_call 120
      refine (appendLong_any w2 v1 v2 b4 xb hb1'.out hb2'.out hsep.out (by omega) (by omega)).mono ?_
      rintro e w3 ⟨v3, rfl, hb3, g3⟩
      have R1 := hid hb3
      have R2 := hid (g12.out.trans g3)
      clear hb3 g3
      go_wp2
      go_roundw
      case rel => exact ⟨k + 1, by omega, by go_num, by unfold Hid; rw [heq.out]; exact R1.out, R2⟩
      case measure => simp [intOf]; omega
    · go_wp2
      go_ret
      refine ⟨u0, rfl, ?_, hgr.out⟩
      have := hbk.out
      rw [List.take_of_length_le (by omega)] at this
      exact this
theorem wrE_eq {n : Nat} (f : List (El n) → By) (o : Bool) (p : Nat) (t : Int) (k u : By) (its : Its n) : wrE f o p ((t, k, u, its) : El (n + 1)) = wrT t ++ k ++ (if k = SQ then wrQ o (List.map (wrI f o) its).flatten else lows 2 (wrV p k u).length ++ wrV p k u) := rfl
theorem appendSet_succ (n : Nat) (H : SetW n) : SetW (n + 1) := by
  intro F w v sv b l d h1 h2 h he hd hn hb hl
  obtain ⟨ad, cap, rfl⟩ := h.slice
  rw [errS] at he
  by_cases h24 : 24 < l.length
  · rw [if_pos h24] at he; cases he
  rw [if_neg h24] at he
  have hels := errL_mem he
  clear he
  rw [wrS_succ] at hl ⊢
  obtain ⟨i0, hi, hz0, hz1, hz2⟩ := info_parts info_8
  have HI := hid hi
  clear hi
  go_enter Tryz.func64, Tryz.ntmps64
  go_wp2_with fail
  go_loopw [0, 9] (fun bv i wr => ∃ k : Nat, k ≤ l.length ∧ i = .int .i64 k ∧ Hid (B8 wr bv (b ++ ((l.take k).map (wrE (wrS false 0 n) false 0)).flatten)) ∧ Hid (Gr w v wr bv)) (fun _ i _ => l.length - (intOf i).toNat)
  case atStart => exact ⟨0, Nat.zero_le _, rfl, by unfold Hid; simpa using hb, Gr.of_below v (Below.refl _ _)⟩
  case round =>
    obtain ⟨k, hk, rfl, hbk, hgr⟩ := hrel
    by_cases hkl : k < l.length
    · obtain ⟨q1, q2, q3⟩ := hgr.out.rd h1 h2
      obtain ⟨a, ad2, cap2, rfl, hF, c0, c1, c2, c3, hrd⟩ := (h.keep (fun _ h => h) q1).at (List.getElem?_eq_getElem hkl)
      obtain ⟨before, hbef⟩ := hels l[k] (List.getElem_mem hkl)
      have hflat := hid (flat_take (wrE (wrS false 0 n) false 0) l k hkl)
      have hfl := flat_take_le (wrE (wrS false 0 n) false 0) l (k + 1)
      rw [hflat.out, List.length_append] at hfl
      generalize l[k] = x at hrd hbef c0 c1 c2 c3 hflat hfl
      obtain ⟨t, kd, u, its⟩ := x
      obtain ⟨e1, e2, e3, e4, e5, e6, e7, e8, e9, e10, e11, e12⟩ := errE_ok hbef
      simp only at e1 e2 e3 e4 e5 e6 e7 e8 e9 e10 e11 e12 c0 c1 c2 c3 hrd
      obtain ⟨t, rfl⟩ := Int.eq_ofNat_of_zero_le e2
      have hkl2 := hid (isK_length e1)
      have hrd' := hid hrd
      have E := hid (And.intro e8 (And.intro e9 (And.intro e11 e12)))
      clear q1 hrd hbef e1 e2 e4 e5 e7 e8 e9 e11 e12
      generalize hbb : b ++ ((l.take k).map (wrE (wrS false 0 n) false 0)).flatten = bb at hbk
      have hbbl := hid (show bb.length = b.length + (((l.take k).map (wrE (wrS false 0 n) false 0)).flatten).length by rw [← hbb, List.length_append])
      have hbb' := hid hbb
      clear hbb
      have hal := Below.alloc (Below.refl wr.heap.size wr) (Nat.le_refl _) (.cells #[.int .i64 t, .string (bs kd), .string (bs u), .slice ad2 its.length cap2] 73)
      have hX := Four.new wr (.int .i64 t) (.string (bs kd)) (.string (bs u)) (.slice ad2 its.length cap2)
      have hrdA := hid (hrd'.out.up hal)
      have hbkA := hid (hbk.out.below hal)
      have hgrA := hid (hgr.out.trans (Gr.of_below u0 hal))
      have hXne : Hid (some wr.heap.size ≠ u0.ownBlock) := fun e => by have := ownsRow_lt hbk.out wr.heap.size (by rw [← e]; simp); omega
      clear hrd' hal q2 q3
      have hkdl := bs_toList kd
      have hkds := bs_size kd
      go_wp2_with fail
      go_at_call 118
      refine (appendTag_any _ u0 bb t hbkA.out (by have := hbbl.out; omega) (by omega)).mono ?_
      generalize wr.alloc (.cells #[.int .i64 t, .string (bs kd), .string (bs u), .slice ad2 its.length cap2] 73) = wA at hX hrdA hbkA hgrA ⊢
      have hQ := hid (hgrA.out.rd h1 h2)
      have hXlt := hX.lt
      rintro e w1 ⟨v1, rfl, hb1, g1⟩
      have hX1 := (hX.keep (g1.1.block _ hXlt hXne.out)).cells
      obtain ⟨⟨_, x1, x2, x3⟩, _⟩ := hX1
      have hb1' := hid hb1
      have g1' := hid g1
      clear hb1 g1
      have hl1 := hid (show (bb ++ wrT t).length = bb.length + 4 by simp [wrT, lows_length])
      have hbb4 := hid (rfl : bb ++ wrT t = bb ++ wrT t)
      generalize hb4 : bb ++ wrT t = b4 at hb1' hl1
      have hb4' := hid hb4
      clear hb4 hbb4
      go_wp2_with (at_builtin; refine wpList_append_str _ rfl _ _ 49 9 rfl 5 i0 Tryz.underlying49 Tryz.underlying9 HI.out hz0 hz1 hz2 _ _ _ rfl hb1'.out (bs kd) rfl (by unfold maxLen; rw [hkds, hkl2.out, hl1.out, hbbl.out]; omega) (by rw [hkds, hkl2.out, hl1.out, hbbl.out]; omega) ?_)
      intro v2 w2 hown hg hm
      have R2 := hid (W8.then g1'.out (W8.mk (b := b4) (c := kd) (Below.refl _ _) (by rw [strCells_bs] at hown; exact hown) hg hm))
      clear hown hg hm
      obtain ⟨_, e2, hb2, g2⟩ := R2.out
      simp only [Ending.returned.injEq] at e2
      subst e2
      have hX2 := (hX.keep (g2.1.block _ hXlt hXne.out)).cells
      obtain ⟨⟨_, y1, y2, y3⟩, _⟩ := hX2
      have hb2' := hid hb2
      have g2' := hid g2
      clear hb2 g2 R2
      have hl2 := hid (show (b4 ++ kd).length = bb.length + 6 by rw [List.length_append, hl1.out, hkl2.out])
      have hwrE := hid (show b ++ ((l.take (k + 1)).map (wrE (wrS false 0 n) false 0)).flatten = (b4 ++ kd) ++ (if kd = SQ then wrQ false (its.map (wrI (wrS false 0 n) false)).flatten else lows 2 (wrV 0 kd u).length ++ wrV 0 kd u) by
        rw [hflat.out, ← List.append_assoc, hbb'.out, wrE_eq, ← hb4'.out]
        simp only [List.append_assoc])
      have hwrL := hid (show (((l.take k).map (wrE (wrS false 0 n) false 0)).flatten).length + (6 + (if kd = SQ then wrQ false (its.map (wrI (wrS false 0 n) false)).flatten else lows 2 (wrV 0 kd u).length ++ wrV 0 kd u).length) ≤ ((l.map (wrE (wrS false 0 n) false 0)).flatten).length by
        have h6 : (wrE (wrS false 0 n) false 0 ((t : Int), kd, u, its)).length = 6 + (if kd = SQ then wrQ false (its.map (wrI (wrS false 0 n) false)).flatten else lows 2 (wrV 0 kd u).length ++ wrV 0 kd u).length := by
          unfold wrE
          simp only [List.length_append, wrT, lows_length, hkl2.out]
        have := hfl
        rw [h6] at this
        exact this)
      clear hfl hflat hb4' hl1
      generalize b4 ++ kd = b6 at hb2' hl2 hwrE
      by_cases hq : (kd == [83, 81]) = true
      · have hq' := hid (show kd = SQ by simpa using hq)
        rw [if_pos hq'.out] at hwrE hwrL
        have hdq := hid (E.out.2.2.1 hq'.out)
        have hgood := hid E.out.2.2.2
        have hwq := hid (show wrQ false (its.map (wrI (wrS false 0 n) false)).flatten = lows 2 0 ++ (lows 4 ((its.map (wrI (wrS false 0 n) false)).flatten).length ++ (its.map (wrI (wrS false 0 n) false)).flatten) by
          unfold wrQ sizeB
          simp only [List.append_assoc]
          simp [lows])
        rw [hwq.out] at hwrE hwrL
        clear hwq
        have hwrL2 := hid (show (((l.take k).map (wrE (wrS false 0 n) false 0)).flatten).length + (12 + ((its.map (wrI (wrS false 0 n) false)).flatten).length) ≤ ((l.map (wrE (wrS false 0 n) false 0)).flatten).length by
          have := hwrL.out
          simp only [List.length_append, lows_length] at this
          omega)
        clear hwrL
        go_wp2_with fail
        go_at_call 119
        refine (appendTwo_any w2 v2 b6 0 hb2'.out (by have h1 := hl2.out; have h2 := hbbl.out; have h3 := hwrL2.out; omega) (by omega)).mono ?_
        rintro e w3 ⟨v3, rfl, hb3, g3⟩
        have g3' := hid (g2'.out.trans g3)
        have hb3' := hid hb3
        clear hb3 g3
        have hX3 := (hX.keep (g3'.out.1.block _ hXlt hXne.out)).cells
        obtain ⟨⟨_, z1, z2, z3⟩, _⟩ := hX3
        have hl3 := hid (show (b6 ++ lows 2 0).length = bb.length + 8 by rw [List.length_append, hl2.out]; rfl)
        have hrd3 := hid (hrdA.out.keep (w' := w3) (F' := F) (fun _ h => h) (g3'.out.rd hQ.out.2.2 hQ.out.2.1).1)
        have hF3 := hid (g3'.out.rd hQ.out.2.2 hQ.out.2.1).2.2
        have hwrE2 := hid (show b ++ ((l.take (k + 1)).map (wrE (wrS false 0 n) false 0)).flatten = (b6 ++ lows 2 0) ++ (lows 4 ((its.map (wrI (wrS false 0 n) false)).flatten).length ++ (its.map (wrI (wrS false 0 n) false)).flatten) by rw [hwrE.out]; simp only [List.append_assoc])
        clear hwrE
        generalize b6 ++ lows 2 0 = b8 at hb3' hl3 hwrE2
        go_wp2_with fail
        go_at_call 121
        refine (appendItems_any n H F w3 _ _ [] its (d + 1) hF3.out (fun j hj => by cases hj) hrd3.out hgood.out (by have := hdq.out; omega) (by omega) (B8.nil w3) (by have := hwrL2.out; simp only [List.length_nil]; omega) e10).mono ?_
        rintro e w4 ⟨v4, rfl, hb4, g4⟩
        rw [List.nil_append] at hb4
        have hb4' := hid hb4
        have hb3A := hid (hb3'.out.below g4.below)
        have hlt3 := hid (ownsRow_lt hb3'.out)
        have g4' := hid (g3'.out.trans (Gr.of_below v3 g4.below))
        have hsep : Hid (∀ k, v4.ownBlock = some k → v3.ownBlock ≠ some k) := fun j hj e => by
          have h1 := hlt3.out j (by rw [e]; simp)
          rcases g4.2 with m | m
          · rw [m] at hj; simp [Value.ownBlock] at hj
          · have := m j (by rw [hj]; simp); omega
        clear hb4 g4
        generalize ((its.map (wrI (wrS false 0 n) false)).flatten) = xb at hb4' hwrE2 hwrL2
        go_wp2_with fail
        go_at_call 120
        refine (appendLong_any w4 v3 v4 b8 xb hb3A.out hb4'.out hsep.out (by have h1 := hl3.out; have h2 := hbbl.out; have h3 := hwrL2.out; omega) (by have h1 := hwrL2.out; omega)).mono ?_
        rintro e w5 ⟨v5, rfl, hb5, g5⟩
        have R1 := hid hb5
        have R2 := hid (hgrA.out.trans (g4'.out.trans g5))
        clear hb5 g5
        go_wp2
        go_roundw
        case rel => exact ⟨k + 1, by omega, by go_num, by unfold Hid; rw [hwrE2.out]; exact R1.out, R2⟩
        case measure => simp [intOf]; omega
      · have hq2 : (kd == [83, 81]) = false := by simpa using hq
        have hq' := hid (show ¬ kd = SQ by simpa using hq)
        rw [if_neg hq'.out] at hwrE hwrL
        clear hq
        go_wp2_with fail
        go_at_call 122
        refine (appendValue_any w2 v2 b6 kd u hb2'.out (by have h1 := hl2.out; have h2 := hbbl.out; have h3 := hwrL.out; omega) e6).mono ?_
        rintro e w3 ⟨v3, rfl, hb3, g3⟩
        have R1 := hid hb3
        have R2 := hid (hgrA.out.trans (g2'.out.trans g3))
        clear hb3 g3
        go_wp2
        go_roundw
        case rel => exact ⟨k + 1, by omega, by go_num, by unfold Hid; rw [hwrE.out]; exact R1.out, R2⟩
        case measure => simp [intOf]; omega
    · go_wp2
      go_ret
      refine ⟨u0, rfl, ?_, hgr.out⟩
      have := hbk.out
      rw [List.take_of_length_le (by omega)] at this
      exact this
theorem appendSet_any : ∀ n, SetW n
  | 0 => fun _ _ _ _ _ _ _ _ _ _ _ h1 h2 _ _ => absurd h2 (by omega)
  | n + 1 => appendSet_succ n (appendSet_any n)
theorem B8.str {w : World} {v : Value} {l : By} (h : B8 w v l) : (convert 49 9 v).run Tryz.prog w = .ok (.string (bs l)) w := by
  rcases h.shape with ⟨rfl, rfl⟩ | ⟨g, cap, rfl⟩
  · rw [run_convert_bytes_string w 49 9 5 none 0 0 Tryz.underlying49 Tryz.underlying5 Tryz.underlying9]
    simp [Conv.bytesToString]
    rfl
  · exact run_convert_bytes_back (P := Tryz.prog) w 49 9 5 ⟨g, 0, none⟩ cap l Tryz.underlying49 Tryz.underlying5 Tryz.underlying9 (fun j hj => h.cells.2 j _ (by
      rw [cs8, List.getElem?_map, List.getElem?_eq_getElem hj]; rfl))
/-- How Encode ends. -/
def EncEnd (n : Nat) (w : World) (l : List (El n)) (e : Ending) (w' : World) : Prop := Below w.heap.size w w' ∧
  ((errS n 0 l ≠ 0 ∧ e = .returned (.tuple #[.string (bs []), .int .i64 (errS n 0 l)])) ∨ (errS n 0 l = 0 ∧ e = .returned (.tuple #[.string (bs (wrS false 0 n l)), .int .i64 0])))
theorem Encode_any (n : Nat) (hn : 3 ≤ n) (F : Nat → Prop) (w : World) (sv : Value) (l : List (El n)) (h1 : ∀ j, F j → j < w.heap.size) (h : Rd w F n sv l) (hl : errS n 0 l = 0 → (wrS false 0 n l).length ≤ 274877906944) :
    Calls Tryz.prog 37 #[sv] w (EncEnd n w l) := by
  obtain ⟨ad, cap, rfl⟩ := h.slice
  go_enter Tryz.func37, Tryz.ntmps37
  go_wp2_with fail
  go_at_call 63
  refine (checkSet_any n F w _ l 0 (by omega) (by omega) h).mono ?_
  rintro e w1 ⟨rfl, u1⟩
  have u1' := hid u1
  have hrd1 := hid (h.up u1)
  clear u1
  have hl' := hid hl
  clear hl
  generalize hee : errS n 0 l = ee
  have hee' := hid hee
  clear hee
  by_cases he : ee = 0
  · subst he
    go_wp2_with fail
    go_at_call 64
    refine (appendSet_any n F w1 _ _ [] l 0 (fun j hj => Nat.lt_of_lt_of_le (h1 j hj) u1'.out.size) (fun j hj => by cases hj) hrd1.out hee'.out (by omega) (by omega) (B8.nil w1) (by have := hl'.out hee'.out; simp only [List.length_nil]; omega)).mono ?_
    rintro e w2 ⟨v2, rfl, hb2, g2⟩
    rw [List.nil_append] at hb2
    have u2 := hid (u1'.out.trans (g2.below.mono u1'.out.size))
    clear g2
    have hcv := hb2.str
    generalize hwb : wrS false 0 n l = wb at hb2 hcv
    have hwb' := hid hwb
    clear hwb
    go_wp2
    go_ret2
    exact ⟨u2.out, Or.inr ⟨hee'.out, by rw [hwb'.out]; rfl⟩⟩
  · have he2 : (ee != 0) = true := by simpa using he
    have he3 := hid he
    clear he
    go_wp2
    go_ret2
    exact ⟨u1'.out, Or.inl ⟨by rw [hee'.out]; exact he3.out, by rw [hee'.out]; rfl⟩⟩
end Go.Proofs.YtaokifbpakbgdaaGreatDoor

/- Package archive, from its leaves up: kindOf, isKept, isInParts, wordsOf, parts. -/
namespace Go.Proofs.YtaokifbpakbgdaaGreatDoor
open Go.RowKit

theorem four_at (w : World) (T : TypeId) (c0 c1 c2 c3 : Value) (b : Nat) (hb : b = w.heap.size) : ∀ j u, [c0, c1, c2, c3][j]? = some u → (w.alloc (.cells #[c0, c1, c2, c3] T)).cell? ((⟨b, 0, none⟩ : Addr).add j) = some u := by
  subst hb
  exact four_cells w T c0 c1 c2 c3
theorem kindOf_any (w : World) (t : Int) : Calls Tryz.prog 178 #[.int .i64 t] w fun e w' => e = .returned (.string (bs (kindT t))) ∧ w' = w := by
  go_enter Tryz.func178, Tryz.ntmps178
  go_wp2
  all_goals go_ret
  all_goals refine ⟨?_, rfl⟩
  all_goals simp_all [kindT, bs]
theorem isInParts_any (w : World) (t : Int) : Calls Tryz.prog 260 #[.int .i64 t] w fun e w' => e = .returned (.bool (isWord t)) ∧ w' = w := by
  go_enter Tryz.func260, Tryz.ntmps260
  go_wp2
  all_goals go_ret
  all_goals refine ⟨?_, rfl⟩
  all_goals first | (simp_all [isWord]; done) | rfl
theorem isKept_any (w : World) (t : Int) : Calls Tryz.prog 155 #[.int .i64 t] w fun e w' => e = .returned (.bool (isKept t)) ∧ w' = w := by
  go_enter Tryz.func155, Tryz.ntmps155
  go_wp2_with (go_at_call 178; refine (kindOf_any _ _).mono ?_; rintro e w1 ⟨rfl, rfl⟩)
  all_goals go_ret
  all_goals refine ⟨?_, rfl⟩
  all_goals simp_all [isKept, bs_toList]
  all_goals cases kindT t <;> rfl
/-- What lies in F, and what was laid since. -/
def Nw (F : Nat → Prop) (w w' : World) (j : Nat) : Prop := F j ∨ (w.heap.size ≤ j ∧ j < w'.heap.size)
theorem up_append4 {w wr w2 : World} {e : TypeId} {k : Nat} {v : Value} {n : Nat} {xs : List Value} (hU : Below w.heap.size w wr) (hown : wr.ownsRow w.heap.size e k v n xs) (hg : wr.grownBy w2 v.ownBlock) : Below w.heap.size w w2 :=
  Below.grown hU hg hU.size (fun j hj => (hown.lt j hj).1)
/-- Cells that were copied. -/
def CpE (w : World) (F : Nat → Prop) (n : Nat) (c : List Value) (x : El (n + 1)) (b : List Nat) : Prop := b = [] ∧ ∃ iv, c = [.int .i64 x.1, .string (bs x.2.1), .string (bs x.2.2.1), iv] ∧ RdI w F n iv x.2.2.2
theorem ownsRow_low {w : World} {base : Nat} {e : TypeId} {k : Nat} {v : Value} {n : Nat} {xs : List Value} (h : w.ownsRow base e k v n xs) : w.ownsRow 0 e k v n xs := by
  obtain ⟨q1, q2⟩ := h
  rcases q2 with ⟨rfl, q2⟩ | ⟨g, cap, cur, rfl, q2, q3⟩
  · exact ⟨q1, Or.inl ⟨rfl, q2⟩⟩
  · exact ⟨q1, Or.inr ⟨g, cap, cur, rfl, Nat.zero_le _, q3⟩⟩
theorem rd_cp {w w' : World} {F F' : Nat → Prop} {n : Nat} {v : Value} {l : List (El (n + 1))} {b : List Nat} (hr : Row w' 73 4 (CpE w F n) v l b) (hu : Below w.heap.size w w')
    (hF : ∀ j, F j → F' j) (hv : ∀ j ∈ b, F' j) : Rd w' F' (n + 1) v l := by
  refine Row.read hr F' hv _ (fun a c x b _ _ => ?_)
  rintro ⟨_, iv, rfl, h1⟩ _ _ hc
  have c0 := hc 0 _ rfl
  rw [Addr.add_zero'] at c0
  exact ⟨c0, hc 1 _ rfl, hc 2 _ rfl, iv, hc 3 _ rfl, h1.keep hF (fun j _ hj => hu.block j hj)⟩
theorem CpE.back {w w' : World} {F : Nat → Prop} {n : Nat} {c : List Value} {x : El (n + 1)} {b : List Nat} (h : CpE w' F n c x b) (hF : ∀ j, F j → j < w.heap.size) (hu : Below w.heap.size w w') : CpE w F n c x b := by
  obtain ⟨h1, iv, h2, h3⟩ := h
  exact ⟨h1, iv, h2, h3.keep (fun _ h => h) (fun j hj _ => (hu.block j (hF j hj)).symm)⟩
def wordsL {n : Nat} (l : List (El (n + 1))) : List (El (n + 1)) := l.filter (fun x => isWord x.1)
theorem wordsL_take {n : Nat} {l : List (El (n + 1))} {k : Nat} (h : k < l.length) : wordsL (l.take (k + 1)) = if isWord l[k].1 = true then wordsL (l.take k) ++ [l[k]] else wordsL (l.take k) := by
  unfold wordsL
  rw [List.take_succ_eq_append_getElem h, List.filter_append]
  by_cases h1 : isWord l[k].1 = true
  · rw [if_pos h1, List.filter_cons_of_pos (p := fun x : El (n + 1) => isWord x.1) h1, List.filter_nil]
  · rw [if_neg h1, List.filter_cons_of_neg (p := fun x : El (n + 1) => isWord x.1) h1, List.filter_nil, List.append_nil]
theorem info_element : (Tryz.prog.info? 73).map (fun i => (i.zero, i.size, i.bytes)) = some (some zeroE, 4, 64) := by kernel_rfl
theorem own_new {w w' : World} {e : TypeId} {k : Nat} {v : Value} {n : Nat} {xs : List Value} (h : w'.ownsRow w.heap.size e k v n xs) : New w w' v.ownBlock.toList := by
  refine ⟨?_, fun j hj => ⟨(h.lt j (by simpa using hj)).1, ownsRow_lt h j hj⟩⟩
  cases v.ownBlock <;> simp
theorem Row.slice {α : Type} {w : World} {T : TypeId} {k : Nat} {R : List Value → α → List Nat → Prop} {v : Value} {l : List α} {bl : List Nat} (h : Row w T k R v l bl) : ∃ ad cap, v = .slice ad l.length cap := by
  obtain ⟨xs, cs, ⟨_, h1⟩, _⟩ := h
  rcases h1 with ⟨rfl, h1⟩ | ⟨g, cap, cur, rfl, _⟩
  · exact ⟨_, _, by rw [h1]⟩
  · exact ⟨_, _, rfl⟩
set_option maxRecDepth 20000 in
theorem wordsOf_any (n : Nat) (F : Nat → Prop) (w : World) (v : Value) (l : List (El (n + 1))) (h : Rd w F (n + 1) v l) (hl : l.length ≤ 24) :
    Calls Tryz.prog 216 #[v] w fun e w' => ∃ v', e = .returned v' ∧ Below w.heap.size w w' ∧ Row w' 73 4 (CpE w F n) v' (wordsL l) v'.ownBlock.toList ∧ New w w' v'.ownBlock.toList := by
  obtain ⟨ad, cap, rfl⟩ := h.slice
  obtain ⟨i0, hi0, hz0, hz1, hz2⟩ := info_parts info_element
  have HI := hid hi0
  clear hi0
  go_enter Tryz.func216, Tryz.ntmps216
  go_wp2_with fail
  go_loopw [3, 8] (fun v i wr => ∃ (k : Nat) (xs : List Value), k ≤ l.length ∧ i = .int .i64 k ∧ Hid (wr.ownsRow w.heap.size 73 4 v (wordsL (l.take k)).length xs) ∧ Hid (Ls 4 (CpE w F n) xs (wordsL (l.take k)) []) ∧ Hid (Below w.heap.size w wr)) (fun _ i _ => l.length - (intOf i).toNat)
  case atStart => exact ⟨0, [], Nat.zero_le _, rfl, World.ownsRow_nil _ _ _ _, ⟨rfl, rfl⟩, Below.refl _ _⟩
  case round =>
    obtain ⟨k, xs, hk, rfl, hown, hls, hU⟩ := hrel
    by_cases hkl : k < l.length
    · have hat := hid (h.at (List.getElem?_eq_getElem hkl))
      obtain ⟨a, ad2, cap2, rfl, _, d0, d1, d2, d3, hrd⟩ := hat.out
      have c0 := hU.out.cell (World.block_lt_of_cell? _ _ d0) |>.trans d0
      have c1 := hU.out.cell (World.block_lt_of_cell? _ _ d1) |>.trans d1
      have c2 := hU.out.cell (World.block_lt_of_cell? _ _ d2) |>.trans d2
      have c3 := hU.out.cell (World.block_lt_of_cell? _ _ d3) |>.trans d3
      have hrd2 := hid hrd
      have hst := hid (wordsL_take hkl)
      have hlen := hid (show (wordsL (l.take k)).length ≤ 24 from Nat.le_trans (List.length_filter_le _ _) (by rw [List.length_take]; omega))
      clear hrd hat d0 d1 d2 d3
      generalize l[k] = x at c0 c1 c2 c3 hrd2 hst
      generalize wordsL (l.take k) = done at hown hls hst hlen
      have hX := (Four.new wr (.int .i64 x.1) (.string (bs x.2.1)) (.string (bs x.2.2.1)) (.slice ad2 x.2.2.2.length cap2)).cells
      obtain ⟨⟨x0, x1, x2, x3⟩, _⟩ := hX
      have U1 := hid (Below.alloc hU.out hU.out.size (.cells #[.int .i64 x.1, .string (bs x.2.1), .string (bs x.2.2.1), .slice ad2 x.2.2.2.length cap2] 73))
      have O1 := hid (hown.out.alloc (.cells #[.int .i64 x.1, .string (bs x.2.1), .string (bs x.2.2.1), .slice ad2 x.2.2.2.length cap2] 73))
      go_wp2_with fail
      go_at_call 260
      refine (isInParts_any _ x.1).mono ?_
      rintro e w1 ⟨rfl, rfl⟩
      by_cases hw : isWord x.1 = true
      · have hst2 := hid (hst.out.trans (if_pos hw))
        rw [hw]
        clear hst hw
        go_wp2_with (at_builtin; refine wpList_append_own _ rfl _ _ 59 rfl w.heap.size 73 i0 zeroE 4 64 Tryz.underlying59 HI.out hz0 hz1 hz2 rfl (by decide) _ _ _ rfl (O1.out.alloc _) ⟨wr.heap.size + 1, 0, none⟩ 1 1 [.int .i64 x.1, .string (bs x.2.1), .string (bs x.2.2.1), .slice ad2 x.2.2.2.length cap2] rfl rfl (four_at _ _ _ _ _ _ _ (by simp)) four_one (by have := hlen.out; unfold maxLen; omega) (by have := hlen.out; omega) (by have := U1.out.size; simp only [World.size_alloc] at this ⊢; omega) ?_)
        intro v' w3 hown' hg hne
        have U3 := hid (up_grow U1.out O1.out _ hg)
        have O3 := hid hown'
        clear hown' hg
        go_wp2
        go_roundw
        case rel =>
          refine ⟨k + 1, xs ++ [.int .i64 x.1, .string (bs x.2.1), .string (bs x.2.2.1), .slice ad2 x.2.2.2.length cap2], by omega, by go_num, ?_, ?_, U3⟩
          · unfold Hid
            rw [hst2.out, List.length_append]
            exact O3.out
          · unfold Hid
            rw [hst2.out]
            exact Ls.snoc (k := 4) (R := CpE w F n) (c := [.int .i64 x.1, .string (bs x.2.1), .string (bs x.2.2.1), .slice ad2 x.2.2.2.length cap2]) (b := []) rfl ⟨rfl, _, rfl, hrd2.out⟩ hls.out
        case measure => simp [intOf]; omega
      · have hst2 := hid (hst.out.trans (if_neg hw))
        have hw2 : isWord x.1 = false := by simpa using hw
        rw [hw2]
        clear hst hw hw2
        go_wp2
        go_roundw
        case rel =>
          refine ⟨k + 1, xs, by omega, by go_num, ?_, ?_, U1⟩
          · unfold Hid
            rw [hst2.out]
            exact O1.out
          · unfold Hid
            rw [hst2.out]
            exact hls.out
        case measure => simp [intOf]; omega
    · have hall : wordsL (l.take k) = wordsL l := by rw [List.take_of_length_le (by omega)]
      have O := hid hown.out
      have L := hid hls.out
      rw [hall] at O L
      clear hown hls hall
      go_wp2
      go_ret
      exact ⟨_, rfl, hU.out, ⟨xs, [], ownsRow_low O.out, L.out, by simp⟩, own_new O.out⟩
/-- Items whose elements were copied. -/
def CpI (w0 : World) (F : Nat → Prop) (n : Nat) (w : World) (c : List Value) (s : List (El (n + 1))) (b : List Nat) : Prop := ∃ sv, c = [sv] ∧ Row w 73 4 (CpE w0 F n) sv s b
theorem CpI.keep {w0 : World} {F : Nat → Prop} {n : Nat} (w w' : World) (c : List Value) (s : List (El (n + 1))) (b : List Nat) (h : CpI w0 F n w c s b) (k : ∀ j ∈ b, w'.heap[j]? = w.heap[j]?) : CpI w0 F n w' c s b := by
  obtain ⟨sv, h1, h2⟩ := h
  exact ⟨sv, h1, h2.keep k (fun _ _ _ _ _ h => h)⟩
theorem rdI_cp {w w' : World} {F F' : Nat → Prop} {n : Nat} {v : Value} {l : Its (n + 1)} {b : List Nat} (hr : Row w' 182 1 (CpI w F n w') v l b) (hu : Below w.heap.size w w')
    (hF : ∀ j, F j → F' j) (hv : ∀ j ∈ b, F' j) : RdI w' F' (n + 1) v l := by
  refine Row.read hr F' hv _ (fun a c x b _ _ => ?_)
  rintro ⟨sv, rfl, h1⟩ _ hb hc
  have c0 := hc 0 _ rfl
  rw [Addr.add_zero'] at c0
  exact ⟨sv, c0, rd_cp h1 hu hF (fun j hj => hv j (hb j hj))⟩
theorem info_item : (Tryz.prog.info? 182).map (fun i => (i.zero, i.size, i.bytes)) = some (some (.agg #[.slice none 0 0]), 1, 24) := by kernel_rfl
set_option maxRecDepth 20000 in
theorem aparts_any (n : Nat) (F : Nat → Prop) (w : World) (v : Value) (its : Its (n + 1)) (h : RdI w F (n + 1) v its) (hF : ∀ j, F j → j < w.heap.size) (hl : its.length ≤ 8) (hs : ∀ s ∈ its, s.length ≤ 24) :
    Calls Tryz.prog 156 #[v] w fun e w' => ∃ v' bl, e = .returned v' ∧ Below w.heap.size w w' ∧ Row w' 182 1 (CpI w F n w') v' (its.map wordsL) bl ∧ New w w' bl := by
  obtain ⟨ad, cap, rfl⟩ := h.slice
  obtain ⟨i0, hi0, hz0, hz1, hz2⟩ := info_parts info_item
  have HI := hid hi0
  have H := hid h
  have HF := hid hF
  have HS := hid hs
  clear hi0 h hF hs
  go_enter Tryz.func156, Tryz.ntmps156
  go_wp2_with fail
  go_loopw [3, 8] (fun o i wr => ∃ (k : Nat) (xs : List Value) (cs : List Nat), k ≤ its.length ∧ i = .int .i64 k ∧ Hid (wr.ownsRow 0 182 1 o ((its.take k).map wordsL).length xs) ∧ Hid (Ls 1 (CpI w F n wr) xs ((its.take k).map wordsL) cs) ∧ Hid (New w wr (o.ownBlock.toList ++ cs)) ∧ Hid (Below w.heap.size w wr)) (fun _ i _ => its.length - (intOf i).toNat)
  case atStart => exact ⟨0, [], [], Nat.zero_le _, rfl, World.ownsRow_nil _ _ _ _, ⟨rfl, rfl⟩, New.nil _ _, Below.refl _ _⟩
  case round =>
    obtain ⟨k, xs, cs, hk, rfl, hown, hls, hnew, hU⟩ := hrel
    by_cases hkl : k < its.length
    · have hat := hid ((H.out.up hU.out).at (List.getElem?_eq_getElem hkl))
      obtain ⟨a, ad2, cap2, rfl, _, c0, hrd⟩ := hat.out
      have hsl := HS.out _ (List.getElem_mem hkl)
      have hst := hid (show (its.take (k + 1)).map wordsL = (its.take k).map wordsL ++ [wordsL its[k]] by rw [List.take_succ_eq_append_getElem hkl, List.map_append]; rfl)
      have hrd2 := hid hrd
      have hlen := hid (show ((its.take k).map wordsL).length ≤ 8 by rw [List.length_map, List.length_take]; omega)
      clear hrd hat
      generalize its[k] = s at c0 hrd2 hst hsl
      generalize (its.take k).map wordsL = done at hown hls hst hlen
      go_wp2_with fail
      go_at_call 216
      have u0 : Below wr.heap.size wr (wr.alloc (.cells #[.slice ad2 s.length cap2] 182)) := Below.alloc (Below.refl _ _) (Nat.le_refl _) _
      refine (wordsOf_any n F _ _ s (hrd2.out.up u0) hsl).mono ?_
      rintro e w2 ⟨v2, rfl, u2, r2, n2⟩
      have u02 := u0.trans (u2.mono u0.size)
      have hold : ∀ j ∈ (Value.ownBlock _).toList ++ cs, w2.heap[j]? = wr.heap[j]? := fun j hj => u02.block j (hnew.out.2 j hj).2
      have hown2 := hid (ownsRow_keep hown.out (w' := w2) (fun j hj => hold j (List.mem_append_left _ hj)))
      have hls2 := hid (hls.out.mono (R' := CpI w F n w2) (fun c y b' hb' _ hr => hr.keep _ _ _ _ _ (fun j hj => hold j (List.mem_append_right _ (hb' j hj)))))
      have U2 := hid (hU.out.trans (u02.mono hU.out.size))
      have hx2 := hid (show CpI w F n w2 [v2] (wordsL s) v2.ownBlock.toList from ⟨v2, rfl, r2.keep (fun _ _ => rfl) (fun _ _ _ _ _ h => h.back HF.out (hU.out.trans (u0.mono hU.out.size)))⟩)
      have hnew2 := hid (New.add hnew.out (n2.from u0.size) hU.out.size u02.size)
      obtain ⟨ad3, cap3, rfl⟩ := r2.slice
      clear u0 u2 u02 hold r2 n2 hown hls hnew
      go_wp2_with (at_builtin; refine wpList_append_sep _ rfl _ _ 71 rfl 182 i0 _ 1 24 Tryz.underlying71 HI.out hz0 hz1 hz2 rfl (by decide) _ _ _ rfl (hown2.out.alloc _) ⟨w2.heap.size, 0, none⟩ 1 1 [.slice ad3 (wordsL s).length cap3] rfl rfl (one_at _ _ _) (by simp [Value.oneCell']) (by have := hlen.out; unfold maxLen; omega) (by have := hlen.out; omega) ?_)
      intro v' w3 hown' hg hv
      have R := hid (Row.push (R := CpI w F n) CpI.keep hls2.out rfl hx2.out U2.out.size hnew2.out hown' hg hv)
      have U4 := hid ((UpB.of_below (b := w.heap.size) (Below.alloc U2.out U2.out.size (.cells #[.slice ad3 (wordsL s).length cap3] 182))).grown hg (fun k hk => Or.inr ((hnew2.out.2 k (List.mem_append_left _ (List.mem_append_left _ (by rw [hk]; simp)))).1)) |>.below (Nat.le_refl _) (Nat.le_refl _))
      clear hown' hg hv
      go_wp2
      go_roundw
      case rel =>
        refine ⟨k + 1, xs ++ [.slice ad3 (wordsL s).length cap3], _, by omega, by go_num, ?_, ?_, R.out.2.2, U4⟩
        · unfold Hid
          rw [hst.out]
          exact R.out.2.1
        · unfold Hid
          rw [hst.out]
          exact R.out.1
      case measure => simp [intOf]; omega
    · have hall : (its.take k).map wordsL = its.map wordsL := by rw [List.take_of_length_le (by omega)]
      have O := hid hown.out
      have L := hid hls.out
      rw [hall] at O L
      clear hown hls hall
      go_wp2
      go_ret
      exact ⟨_, _, rfl, hU.out, ⟨xs, cs, O.out, L.out, rfl⟩, hnew.out⟩
end Go.Proofs.YtaokifbpakbgdaaGreatDoor
