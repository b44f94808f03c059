/-
  Package dataset's appendSet, appendItems and Encode.
-/
import Derived.Test.YtaokifbpakbgdaaGreatDoorWr
import Derived.Laws.BytesArg
namespace Go.Proofs.YtaokifbpakbgdaaGreatDoor
open Go.RowKit

/-- What is asked of appendSet, at a depth. -/
def SetW (n : Nat) : Prop := ∀ (F : Nat → Prop) (w : World) (v sv : Value) (b : By) (l : List (El n)) (d : Nat), (∀ j, F j → j < w.heap.size) → (∀ j ∈ v.ownBlock.toList, ¬ F j) → Rd w F n sv l → errS n d l = 0 → d ≤ 2 → 3 ≤ d + n → B8 w v b →
  b.length + (wrS false 0 n l).length ≤ 274877906944 → Calls Tryz.prog 64 #[v, sv] w (W8 w v (b ++ wrS false 0 n l))
/-- While bytes are written the data set stays. -/
theorem Gr.rd {w w' : World} {v v' : Value} {F : Nat → Prop} (g : Gr w v w' v') (h1 : ∀ j, F j → j < w.heap.size) (h2 : ∀ j ∈ v.ownBlock.toList, ¬ F j) :
    (∀ j, F j → j < w.heap.size → w'.heap[j]? = w.heap[j]?) ∧ (∀ j ∈ v'.ownBlock.toList, ¬ F j) ∧ (∀ j, F j → j < w'.heap.size) := by
  refine ⟨fun j hj hlt => g.1.block j hlt (fun e => h2 j (by rw [← e]; simp) hj), fun j hj hF => ?_, fun j hj => Nat.lt_of_lt_of_le (h1 j hj) g.1.size⟩
  rcases g.2 with m | m
  · exact h2 j (by rw [← m]; exact hj) hF
  · have := m j hj
    have := h1 j hF
    omega
theorem RdI.at {w : World} {F : Nat → Prop} {n : Nat} {ad : Option Addr} {len cap : Nat} {l : List (List (El n))} (h : RdI w F n (.slice ad len cap) l) {i : Nat} {x : List (El n)} (hx : l[i]? = some x) :
    ∃ a ad2 cap2, ad = some a ∧ F a.block ∧ w.cell? (a.add i) = some (.slice ad2 x.length cap2) ∧ Rd w F n (.slice ad2 x.length cap2) x := by
  obtain ⟨ad', cap', e, hc⟩ := h
  obtain ⟨a, rfl, hF, sv, h0, h1⟩ := hc i x hx
  obtain ⟨ad2, cap2, rfl⟩ := h1.slice
  simp only [Value.slice.injEq] at e
  rw [Nat.one_mul] at h0
  exact ⟨a, ad2, cap2, e.1, hF, h0, h1⟩
theorem flat_take {α : Type} (f : α → By) (l : List α) (k : Nat) (hk : k < l.length) : ((l.take (k + 1)).map f).flatten = ((l.take k).map f).flatten ++ f l[k] := by
  rw [List.take_succ_eq_append_getElem hk, List.map_append, List.flatten_append]
  simp
theorem flat_take_le {α : Type} (f : α → By) (l : List α) (k : Nat) : (((l.take k).map f).flatten).length ≤ ((l.map f).flatten).length := by
  conv => rhs; rw [← List.take_append_drop k l, List.map_append, List.flatten_append, List.length_append]
  omega
theorem appendItems_any (n : Nat) (H : SetW n) (F : Nat → Prop) (w : World) (v iv : Value) (b : By) (l : Its n) (d : Nat) (h1 : ∀ j, F j → j < w.heap.size) (h2 : ∀ j ∈ v.ownBlock.toList, ¬ F j) (h : RdI w F n iv l) (he : errI (errS n d) l = 0) (hd : d ≤ 2) (hn : 3 ≤ d + n)
    (hb : B8 w v b) (hl : b.length + ((l.map (wrI (wrS false 0 n) false)).flatten).length ≤ 274877906944) (hl8 : l.length ≤ 8) :
    Calls Tryz.prog 121 #[v, iv] w (W8 w v (b ++ (l.map (wrI (wrS false 0 n) false)).flatten)) := by
  obtain ⟨ad, cap, rfl⟩ := h.slice
  have hsets := errI_mem he
  go_enter Tryz.func121, Tryz.ntmps121
  go_wp2_with fail
  go_loopw [0, 9] (fun bv i wr => ∃ k : Nat, k ≤ l.length ∧ i = .int .i64 k ∧ Hid (B8 wr bv (b ++ ((l.take k).map (wrI (wrS false 0 n) false)).flatten)) ∧ Hid (Gr w v wr bv)) (fun _ i _ => l.length - (intOf i).toNat)
  case atStart => exact ⟨0, Nat.zero_le _, rfl, by unfold Hid; simpa using hb, Gr.of_below v (Below.refl _ _)⟩
  case round =>
    obtain ⟨k, hk, rfl, hbk, hgr⟩ := hrel
    by_cases hkl : k < l.length
    · obtain ⟨q1, q2, q3⟩ := hgr.out.rd h1 h2
      obtain ⟨a, ad2, cap2, rfl, hF, c0, hrd⟩ := (h.keep (fun _ h => h) q1).at (List.getElem?_eq_getElem hkl)
      have hgood := hsets l[k] (List.getElem_mem hkl)
      have hflat := hid (flat_take (wrI (wrS false 0 n) false) l k hkl)
      have hfl := flat_take_le (wrI (wrS false 0 n) false) l (k + 1)
      rw [hflat.out, List.length_append] at hfl
      generalize l[k] = x at hrd hgood c0 hflat hfl
      have hwl : (wrI (wrS false 0 n) false x).length = 8 + (wrS false 0 n x).length := by
        unfold wrI sizeB
        simp [lows_length]
        omega
      have hrd' := hid hrd
      have Q := hid (And.intro q2 q3)
      clear q1 q2 q3 hrd
      generalize hbb : b ++ ((l.take k).map (wrI (wrS false 0 n) false)).flatten = bb at hbk
      have hbbl : bb.length = b.length + (((l.take k).map (wrI (wrS false 0 n) false)).flatten).length := by rw [← hbb, List.length_append]
      have hbb' := hid hbb
      clear hbb
      have hal := Below.alloc (Below.refl wr.heap.size wr) (Nat.le_refl _) (.cells #[.slice ad2 x.length cap2] 182)
      have hX : (wr.alloc (.cells #[.slice ad2 x.length cap2] 182)).heap[wr.heap.size]? = some (.cells #[.slice ad2 x.length cap2] 182 (0, 0)) := heap_alloc_new _ _
      have hrdA := hid (hrd'.out.up hal)
      have hbkA := hid (hbk.out.below hal)
      have hgrA := hid (hgr.out.trans (Gr.of_below u0 hal))
      have hown0 := hid (ownsRow_lt hbk.out)
      clear hrd' hal
      go_wp2_with fail
      go_at_call 118
      refine (appendTag_any _ u0 bb 4294893568 hbkA.out (by omega) (by omega)).mono ?_
      generalize wr.alloc (.cells #[.slice ad2 x.length cap2] 182) = wA at hX hrdA hbkA hgrA ⊢
      rintro e w1 ⟨v1, rfl, hb1, g1⟩
      have hX1 : w1.heap[wr.heap.size]? = some (.cells #[.slice ad2 x.length cap2] 182 (0, 0)) := (g1.1.block _ (lt_of_block hX) (fun e => by have := hown0.out wr.heap.size (by rw [← e]; simp); omega)).trans hX
      have cX := cell_of_one hX1
      obtain ⟨p1, p2, p3⟩ := (hgrA.out.trans g1).rd h1 h2
      have hrd1 := hid (hrdA.out.keep (w' := w1) (F' := F) (fun _ h => h) (fun j hj hlt => g1.1.block j hlt (fun e => by
        have hq := hgrA.out.rd h1 h2
        exact hq.2.1 j (by rw [← e]; simp) hj)))
      have hP := hid p3
      clear p1 p2 p3 hX1 hX
      go_wp2_with fail
      go_at_call 64
      refine (H F w1 _ _ [] x d hP.out (fun j hj => by cases hj) hrd1.out hgood hd hn (B8.nil w1) (by simp; omega)).mono ?_
      rintro e w2 ⟨v2, rfl, hb2, g2⟩
      rw [List.nil_append] at hb2
      have hb2' := hid hb2
      have hb1' := hid (hb1.below g2.below)
      have hlt1 := hid (ownsRow_lt hb1)
      have g12 := hid ((hgrA.out.trans g1).trans (Gr.of_below v1 g2.below))
      have hsep : Hid (∀ k, v2.ownBlock = some k → v1.ownBlock ≠ some k) := fun j hj e => by
        have h1 := hlt1.out j (by rw [e]; simp)
        rcases g2.2 with m | m
        · rw [m] at hj; simp [Value.ownBlock] at hj
        · have := m j (by rw [hj]; simp); omega
      clear hb1 hb2 g1 g2
      have hl1 : (bb ++ wrT (4294893568 : Nat)).length = bb.length + 4 := by simp [wrT, lows_length]
      have heq := hid (show b ++ ((l.take (k + 1)).map (wrI (wrS false 0 n) false)).flatten = bb ++ wrT (4294893568 : Nat) ++ (lows 4 (wrS false 0 n x).length ++ wrS false 0 n x) by
        rw [hflat.out, ← List.append_assoc, hbb'.out, wrI, show wrT ((4294893568 : Nat) : Int) = [254, 255, 0, 224] by decide +kernel]
        simp [sizeB])
      generalize bb ++ wrT (4294893568 : Nat) = b4 at hb1' hl1 heq
      generalize wrS false 0 n x = xb at hb2' heq hwl
      go_wp2_with fail
      go_at_call 120
      refine (appendLong_any w2 v1 v2 b4 xb hb1'.out hb2'.out hsep.out (by omega) (by omega)).mono ?_
      rintro e w3 ⟨v3, rfl, hb3, g3⟩
      have R1 := hid hb3
      have R2 := hid (g12.out.trans g3)
      clear hb3 g3
      go_wp2
      go_roundw
      case rel => exact ⟨k + 1, by omega, by go_num, by unfold Hid; rw [heq.out]; exact R1.out, R2⟩
      case measure => simp [intOf]; omega
    · go_wp2
      go_ret
      refine ⟨u0, rfl, ?_, hgr.out⟩
      have := hbk.out
      rw [List.take_of_length_le (by omega)] at this
      exact this
theorem wrE_eq {n : Nat} (f : List (El n) → By) (o : Bool) (p : Nat) (t : Int) (k u : By) (its : Its n) : wrE f o p ((t, k, u, its) : El (n + 1)) = wrT t ++ k ++ (if k = SQ then wrQ o (List.map (wrI f o) its).flatten else lows 2 (wrV p k u).length ++ wrV p k u) := rfl
theorem appendSet_succ (n : Nat) (H : SetW n) : SetW (n + 1) := by
  intro F w v sv b l d h1 h2 h he hd hn hb hl
  obtain ⟨ad, cap, rfl⟩ := h.slice
  rw [errS] at he
  by_cases h24 : 24 < l.length
  · rw [if_pos h24] at he; cases he
  rw [if_neg h24] at he
  have hels := errL_mem he
  clear he
  rw [wrS_succ] at hl ⊢
  obtain ⟨i0, hi, hz0, hz1, hz2⟩ := info_parts info_8
  have HI := hid hi
  clear hi
  go_enter Tryz.func64, Tryz.ntmps64
  go_wp2_with fail
  go_loopw [0, 9] (fun bv i wr => ∃ k : Nat, k ≤ l.length ∧ i = .int .i64 k ∧ Hid (B8 wr bv (b ++ ((l.take k).map (wrE (wrS false 0 n) false 0)).flatten)) ∧ Hid (Gr w v wr bv)) (fun _ i _ => l.length - (intOf i).toNat)
  case atStart => exact ⟨0, Nat.zero_le _, rfl, by unfold Hid; simpa using hb, Gr.of_below v (Below.refl _ _)⟩
  case round =>
    obtain ⟨k, hk, rfl, hbk, hgr⟩ := hrel
    by_cases hkl : k < l.length
    · obtain ⟨q1, q2, q3⟩ := hgr.out.rd h1 h2
      obtain ⟨a, ad2, cap2, rfl, hF, c0, c1, c2, c3, hrd⟩ := (h.keep (fun _ h => h) q1).at (List.getElem?_eq_getElem hkl)
      obtain ⟨before, hbef⟩ := hels l[k] (List.getElem_mem hkl)
      have hflat := hid (flat_take (wrE (wrS false 0 n) false 0) l k hkl)
      have hfl := flat_take_le (wrE (wrS false 0 n) false 0) l (k + 1)
      rw [hflat.out, List.length_append] at hfl
      generalize l[k] = x at hrd hbef c0 c1 c2 c3 hflat hfl
      obtain ⟨t, kd, u, its⟩ := x
      obtain ⟨e1, e2, e3, e4, e5, e6, e7, e8, e9, e10, e11, e12⟩ := errE_ok hbef
      simp only at e1 e2 e3 e4 e5 e6 e7 e8 e9 e10 e11 e12 c0 c1 c2 c3 hrd
      obtain ⟨t, rfl⟩ := Int.eq_ofNat_of_zero_le e2
      have hkl2 := hid (isK_length e1)
      have hrd' := hid hrd
      have E := hid (And.intro e8 (And.intro e9 (And.intro e11 e12)))
      clear q1 hrd hbef e1 e2 e4 e5 e7 e8 e9 e11 e12
      generalize hbb : b ++ ((l.take k).map (wrE (wrS false 0 n) false 0)).flatten = bb at hbk
      have hbbl := hid (show bb.length = b.length + (((l.take k).map (wrE (wrS false 0 n) false 0)).flatten).length by rw [← hbb, List.length_append])
      have hbb' := hid hbb
      clear hbb
      have hal := Below.alloc (Below.refl wr.heap.size wr) (Nat.le_refl _) (.cells #[.int .i64 t, .string (bs kd), .string (bs u), .slice ad2 its.length cap2] 73)
      have hX := Four.new wr (.int .i64 t) (.string (bs kd)) (.string (bs u)) (.slice ad2 its.length cap2)
      have hrdA := hid (hrd'.out.up hal)
      have hbkA := hid (hbk.out.below hal)
      have hgrA := hid (hgr.out.trans (Gr.of_below u0 hal))
      have hXne : Hid (some wr.heap.size ≠ u0.ownBlock) := fun e => by have := ownsRow_lt hbk.out wr.heap.size (by rw [← e]; simp); omega
      clear hrd' hal q2 q3
      have hkdl := bs_toList kd
      have hkds := bs_size kd
      go_wp2_with fail
      go_at_call 118
      refine (appendTag_any _ u0 bb t hbkA.out (by have := hbbl.out; omega) (by omega)).mono ?_
      generalize wr.alloc (.cells #[.int .i64 t, .string (bs kd), .string (bs u), .slice ad2 its.length cap2] 73) = wA at hX hrdA hbkA hgrA ⊢
      have hQ := hid (hgrA.out.rd h1 h2)
      have hXlt := hX.lt
      rintro e w1 ⟨v1, rfl, hb1, g1⟩
      have hX1 := (hX.keep (g1.1.block _ hXlt hXne.out)).cells
      obtain ⟨⟨_, x1, x2, x3⟩, _⟩ := hX1
      have hb1' := hid hb1
      have g1' := hid g1
      clear hb1 g1
      have hl1 := hid (show (bb ++ wrT t).length = bb.length + 4 by simp [wrT, lows_length])
      have hbb4 := hid (rfl : bb ++ wrT t = bb ++ wrT t)
      generalize hb4 : bb ++ wrT t = b4 at hb1' hl1
      have hb4' := hid hb4
      clear hb4 hbb4
      go_wp2_with (at_builtin; refine wpList_append_str _ rfl _ _ 49 9 rfl 5 i0 Tryz.underlying49 Tryz.underlying9 HI.out hz0 hz1 hz2 _ _ _ rfl hb1'.out (bs kd) rfl (by unfold maxLen; rw [hkds, hkl2.out, hl1.out, hbbl.out]; omega) (by rw [hkds, hkl2.out, hl1.out, hbbl.out]; omega) ?_)
      intro v2 w2 hown hg hm
      have R2 := hid (W8.then g1'.out (W8.mk (b := b4) (c := kd) (Below.refl _ _) (by rw [strCells_bs] at hown; exact hown) hg hm))
      clear hown hg hm
      obtain ⟨_, e2, hb2, g2⟩ := R2.out
      simp only [Ending.returned.injEq] at e2
      subst e2
      have hX2 := (hX.keep (g2.1.block _ hXlt hXne.out)).cells
      obtain ⟨⟨_, y1, y2, y3⟩, _⟩ := hX2
      have hb2' := hid hb2
      have g2' := hid g2
      clear hb2 g2 R2
      have hl2 := hid (show (b4 ++ kd).length = bb.length + 6 by rw [List.length_append, hl1.out, hkl2.out])
      have hwrE := hid (show b ++ ((l.take (k + 1)).map (wrE (wrS false 0 n) false 0)).flatten = (b4 ++ kd) ++ (if kd = SQ then wrQ false (its.map (wrI (wrS false 0 n) false)).flatten else lows 2 (wrV 0 kd u).length ++ wrV 0 kd u) by
        rw [hflat.out, ← List.append_assoc, hbb'.out, wrE_eq, ← hb4'.out]
        simp only [List.append_assoc])
      have hwrL := hid (show (((l.take k).map (wrE (wrS false 0 n) false 0)).flatten).length + (6 + (if kd = SQ then wrQ false (its.map (wrI (wrS false 0 n) false)).flatten else lows 2 (wrV 0 kd u).length ++ wrV 0 kd u).length) ≤ ((l.map (wrE (wrS false 0 n) false 0)).flatten).length by
        have h6 : (wrE (wrS false 0 n) false 0 ((t : Int), kd, u, its)).length = 6 + (if kd = SQ then wrQ false (its.map (wrI (wrS false 0 n) false)).flatten else lows 2 (wrV 0 kd u).length ++ wrV 0 kd u).length := by
          unfold wrE
          simp only [List.length_append, wrT, lows_length, hkl2.out]
        have := hfl
        rw [h6] at this
        exact this)
      clear hfl hflat hb4' hl1
      generalize b4 ++ kd = b6 at hb2' hl2 hwrE
      by_cases hq : (kd == [83, 81]) = true
      · have hq' := hid (show kd = SQ by simpa using hq)
        rw [if_pos hq'.out] at hwrE hwrL
        have hdq := hid (E.out.2.2.1 hq'.out)
        have hgood := hid E.out.2.2.2
        have hwq := hid (show wrQ false (its.map (wrI (wrS false 0 n) false)).flatten = lows 2 0 ++ (lows 4 ((its.map (wrI (wrS false 0 n) false)).flatten).length ++ (its.map (wrI (wrS false 0 n) false)).flatten) by
          unfold wrQ sizeB
          simp only [List.append_assoc]
          simp [lows])
        rw [hwq.out] at hwrE hwrL
        clear hwq
        have hwrL2 := hid (show (((l.take k).map (wrE (wrS false 0 n) false 0)).flatten).length + (12 + ((its.map (wrI (wrS false 0 n) false)).flatten).length) ≤ ((l.map (wrE (wrS false 0 n) false 0)).flatten).length by
          have := hwrL.out
          simp only [List.length_append, lows_length] at this
          omega)
        clear hwrL
        go_wp2_with fail
        go_at_call 119
        refine (appendTwo_any w2 v2 b6 0 hb2'.out (by have h1 := hl2.out; have h2 := hbbl.out; have h3 := hwrL2.out; omega) (by omega)).mono ?_
        rintro e w3 ⟨v3, rfl, hb3, g3⟩
        have g3' := hid (g2'.out.trans g3)
        have hb3' := hid hb3
        clear hb3 g3
        have hX3 := (hX.keep (g3'.out.1.block _ hXlt hXne.out)).cells
        obtain ⟨⟨_, z1, z2, z3⟩, _⟩ := hX3
        have hl3 := hid (show (b6 ++ lows 2 0).length = bb.length + 8 by rw [List.length_append, hl2.out]; rfl)
        have hrd3 := hid (hrdA.out.keep (w' := w3) (F' := F) (fun _ h => h) (g3'.out.rd hQ.out.2.2 hQ.out.2.1).1)
        have hF3 := hid (g3'.out.rd hQ.out.2.2 hQ.out.2.1).2.2
        have hwrE2 := hid (show b ++ ((l.take (k + 1)).map (wrE (wrS false 0 n) false 0)).flatten = (b6 ++ lows 2 0) ++ (lows 4 ((its.map (wrI (wrS false 0 n) false)).flatten).length ++ (its.map (wrI (wrS false 0 n) false)).flatten) by rw [hwrE.out]; simp only [List.append_assoc])
        clear hwrE
        generalize b6 ++ lows 2 0 = b8 at hb3' hl3 hwrE2
        go_wp2_with fail
        go_at_call 121
        refine (appendItems_any n H F w3 _ _ [] its (d + 1) hF3.out (fun j hj => by cases hj) hrd3.out hgood.out (by have := hdq.out; omega) (by omega) (B8.nil w3) (by have := hwrL2.out; simp only [List.length_nil]; omega) e10).mono ?_
        rintro e w4 ⟨v4, rfl, hb4, g4⟩
        rw [List.nil_append] at hb4
        have hb4' := hid hb4
        have hb3A := hid (hb3'.out.below g4.below)
        have hlt3 := hid (ownsRow_lt hb3'.out)
        have g4' := hid (g3'.out.trans (Gr.of_below v3 g4.below))
        have hsep : Hid (∀ k, v4.ownBlock = some k → v3.ownBlock ≠ some k) := fun j hj e => by
          have h1 := hlt3.out j (by rw [e]; simp)
          rcases g4.2 with m | m
          · rw [m] at hj; simp [Value.ownBlock] at hj
          · have := m j (by rw [hj]; simp); omega
        clear hb4 g4
        generalize ((its.map (wrI (wrS false 0 n) false)).flatten) = xb at hb4' hwrE2 hwrL2
        go_wp2_with fail
        go_at_call 120
        refine (appendLong_any w4 v3 v4 b8 xb hb3A.out hb4'.out hsep.out (by have h1 := hl3.out; have h2 := hbbl.out; have h3 := hwrL2.out; omega) (by have h1 := hwrL2.out; omega)).mono ?_
        rintro e w5 ⟨v5, rfl, hb5, g5⟩
        have R1 := hid hb5
        have R2 := hid (hgrA.out.trans (g4'.out.trans g5))
        clear hb5 g5
        go_wp2
        go_roundw
        case rel => exact ⟨k + 1, by omega, by go_num, by unfold Hid; rw [hwrE2.out]; exact R1.out, R2⟩
        case measure => simp [intOf]; omega
      · have hq2 : (kd == [83, 81]) = false := by simpa using hq
        have hq' := hid (show ¬ kd = SQ by simpa using hq)
        rw [if_neg hq'.out] at hwrE hwrL
        clear hq
        go_wp2_with fail
        go_at_call 122
        refine (appendValue_any w2 v2 b6 kd u hb2'.out (by have h1 := hl2.out; have h2 := hbbl.out; have h3 := hwrL.out; omega) e6).mono ?_
        rintro e w3 ⟨v3, rfl, hb3, g3⟩
        have R1 := hid hb3
        have R2 := hid (hgrA.out.trans (g2'.out.trans g3))
        clear hb3 g3
        go_wp2
        go_roundw
        case rel => exact ⟨k + 1, by omega, by go_num, by unfold Hid; rw [hwrE.out]; exact R1.out, R2⟩
        case measure => simp [intOf]; omega
    · go_wp2
      go_ret
      refine ⟨u0, rfl, ?_, hgr.out⟩
      have := hbk.out
      rw [List.take_of_length_le (by omega)] at this
      exact this
theorem appendSet_any : ∀ n, SetW n
  | 0 => fun _ _ _ _ _ _ _ _ _ _ _ h1 h2 _ _ => absurd h2 (by omega)
  | n + 1 => appendSet_succ n (appendSet_any n)
theorem B8.str {w : World} {v : Value} {l : By} (h : B8 w v l) : (convert 49 9 v).run Tryz.prog w = .ok (.string (bs l)) w := by
  rcases h.shape with ⟨rfl, rfl⟩ | ⟨g, cap, rfl⟩
  · rw [run_convert_bytes_string w 49 9 5 none 0 0 Tryz.underlying49 Tryz.underlying5 Tryz.underlying9]
    simp [Conv.bytesToString]
    rfl
  · exact run_convert_bytes_back (P := Tryz.prog) w 49 9 5 ⟨g, 0, none⟩ cap l Tryz.underlying49 Tryz.underlying5 Tryz.underlying9 (fun j hj => h.cells.2 j _ (by
      rw [cs8, List.getElem?_map, List.getElem?_eq_getElem hj]; rfl))
/-- How Encode ends. -/
def EncEnd (n : Nat) (w : World) (l : List (El n)) (e : Ending) (w' : World) : Prop := Below w.heap.size w w' ∧
  ((errS n 0 l ≠ 0 ∧ e = .returned (.tuple #[.string (bs []), .int .i64 (errS n 0 l)])) ∨ (errS n 0 l = 0 ∧ e = .returned (.tuple #[.string (bs (wrS false 0 n l)), .int .i64 0])))
theorem Encode_any (n : Nat) (hn : 3 ≤ n) (F : Nat → Prop) (w : World) (sv : Value) (l : List (El n)) (h1 : ∀ j, F j → j < w.heap.size) (h : Rd w F n sv l) (hl : errS n 0 l = 0 → (wrS false 0 n l).length ≤ 274877906944) :
    Calls Tryz.prog 37 #[sv] w (EncEnd n w l) := by
  obtain ⟨ad, cap, rfl⟩ := h.slice
  go_enter Tryz.func37, Tryz.ntmps37
  go_wp2_with fail
  go_at_call 63
  refine (checkSet_any n F w _ l 0 (by omega) (by omega) h).mono ?_
  rintro e w1 ⟨rfl, u1⟩
  have u1' := hid u1
  have hrd1 := hid (h.up u1)
  clear u1
  have hl' := hid hl
  clear hl
  generalize hee : errS n 0 l = ee
  have hee' := hid hee
  clear hee
  by_cases he : ee = 0
  · subst he
    go_wp2_with fail
    go_at_call 64
    refine (appendSet_any n F w1 _ _ [] l 0 (fun j hj => Nat.lt_of_lt_of_le (h1 j hj) u1'.out.size) (fun j hj => by cases hj) hrd1.out hee'.out (by omega) (by omega) (B8.nil w1) (by have := hl'.out hee'.out; simp only [List.length_nil]; omega)).mono ?_
    rintro e w2 ⟨v2, rfl, hb2, g2⟩
    rw [List.nil_append] at hb2
    have u2 := hid (u1'.out.trans (g2.below.mono u1'.out.size))
    clear g2
    have hcv := hb2.str
    generalize hwb : wrS false 0 n l = wb at hb2 hcv
    have hwb' := hid hwb
    clear hwb
    go_wp2
    go_ret2
    exact ⟨u2.out, Or.inr ⟨hee'.out, by rw [hwb'.out]; rfl⟩⟩
  · have he2 : (ee != 0) = true := by simpa using he
    have he3 := hid he
    clear he
    go_wp2
    go_ret2
    exact ⟨u1'.out, Or.inl ⟨by rw [hee'.out]; exact he3.out, by rw [hee'.out]; rfl⟩⟩
end Go.Proofs.YtaokifbpakbgdaaGreatDoor
