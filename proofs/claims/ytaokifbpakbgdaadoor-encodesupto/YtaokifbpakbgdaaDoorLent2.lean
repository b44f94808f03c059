/-
  Package foliolaw: a data set in lists with spare room, in which the owner's marks stand.
-/
import Derived.Test.YtaokifbpakbgdaaDoorLBad
import Derived.Test.YtaokifbpakbgdaaDoorWr2
import Derived.Test.YtaokifbpakbgdaaDoorLent1
namespace Go.Proofs.YtaokifbpakbgdaaDoor
open Go.RowKit

theorem info_els : (Tryd.prog.info? 22).map (fun i => (i.zero, i.size, i.bytes)) = some (some (.slice none 0 0), 1, 24) := by kernel_rfl
theorem info_its : (Tryd.prog.info? 35).map (fun i => (i.zero, i.size, i.bytes)) = some (some (.slice none 0 0), 1, 24) := by kernel_rfl
theorem info_int : (Tryd.prog.info? 3).map (fun i => (i.zero, i.size, i.bytes)) = some (some (.int .i64 0), 1, 8) := by kernel_rfl
theorem bad0_any (w : World) : Calls Tryd.prog 20 #[.int .i64 0] w fun e w' => e = .returned (.agg #[.int .i64 (-1000), .string ⟨#[63, 63]⟩, .string ⟨#[]⟩, .slice none 0 0]) ∧ Below w.heap.size w w' := bad_any w 0 (by decide) (by decide)
theorem out_zero {n : Nat} {w w' : World} {F F' : Nat → Prop} {g N e : Nat} {T : TypeId} {l : List (El (n + 1))} (h : HasC w g T N (OutQ w F l 0 e)) (hk : w'.heap[g]? = w.heap[g]?) : HasC w' g T N (OutQ w' F' l 0 e) := h.keep hk (fun j v _ hv => ⟨fun x hx => by
  have := hv.1 x hx
  have hm : j % 4 = 0 ∨ j % 4 = 1 ∨ j % 4 = 2 ∨ j % 4 = 3 := by omega
  rcases hm with hm | hm | hm | hm <;> rw [hm] at this ⊢
  · exact this
  · exact this
  · exact this
  · exact fun h => by omega, hv.2⟩)
theorem has_cell {w : World} {g N j : Nat} {T : TypeId} {P : Nat → Value → Prop} (h : HasC w g T N P) (hj : j < N) : ∃ v, w.cell? ⟨g, j, none⟩ = some v ∧ w.frozen? ⟨g, j, none⟩ = false := by
  obtain ⟨v, c, _⟩ := h.cell hj
  exact ⟨v, c, h.free j⟩
theorem sum_take_mono {α : Type} (f : α → Nat) (l : List α) (k : Nat) : ((l.take k).map f).sum ≤ ((l.take (k + 1)).map f).sum := by
  by_cases hk : k < l.length
  · have := sum_take f l k hk; omega
  · rw [List.take_of_length_le (by omega), List.take_of_length_le (by omega)]; exact Nat.le_refl _
theorem one_new (w : World) (x : Value) (T : TypeId) (b : Nat) (hb : b = w.heap.size) : ∀ j u, [x][j]? = some u → (w.alloc (.cells #[x] T)).cell? ((⟨b, 0, none⟩ : Addr).add j) = some u := by
  intro j u hj
  subst hb
  rw [Addr.add_lit]
  match j, hj with
  | 0, hj => simp at hj; subst hj; simp
  | j + 1, hj => simp at hj
theorem own_slice {w : World} {b : Nat} {T : TypeId} {v : Value} {n : Nat} {xs : List Value} (h : w.ownsRow b T 1 v (n + 1) xs) : ∃ g cap, v = .slice (some ⟨g, 0, none⟩) (n + 1) cap := by
  rcases h.2 with ⟨_, hn⟩ | ⟨g, cap, cur, rfl, _⟩
  · omega
  · exact ⟨g, cap, rfl⟩
def LT (n : Nat) : Prop := ∀ (F : Nat → Prop) (w : World) (B : Nat) (v : Value) (l : List (El (n + 1))) (es is : List (Nat × Nat)) (S : Nat → Prop), Rd w F (n + 1) v l → Full (n + 1) l → Ln w B es is S → (∀ j, F j → j < w.heap.size ∧ ¬ S j) → es.length + is.length + blk (n + 1) l ≤ 1073741824 →
  Calls Tryd.prog 7 #[ptr B, v] w (LentEnd w B l es is S)
set_option maxHeartbeats 4000000 in
set_option maxRecDepth 20000 in
theorem lent_step (n : Nat) (H : ∀ m, n = m + 1 → LT m) : LT n := by
  intro F w B v l es is S h hfu hL hF hbd
  obtain ⟨ad, cap, rfl⟩ := h.slice
  have hlb := blk_len _ l
  obtain ⟨i0, hi, hz0, hz1, hz2⟩ := info_parts info_el
  have HI := hid hi
  clear hi
  obtain ⟨cs, hcl, hcs1, hcs2, hcs3, hcs4⟩ := rd_cells h
  have C1 := hid hcs1
  have C2 := hid hcs2
  have C3 := hid hcs3
  have C4 := hid hcs4
  have CL := hid hcl
  clear hcs1 hcs2 hcs3 hcs4 hcl
  go_enter Tryd.func7, Tryd.ntmps7
  go_wp2_with (at_make; refine wpList_make_full _ rfl _ _ 22 rfl w.heap.size 37 i0 _ 4 Tryd.underlying22 HI.out hz0 hz1 .i64 .i64 _ _ (l.length + 8) rfl rfl (by simp) (by simp) (by rw [hz2]; omega) (by unfold maxLen; omega) (Nat.le_refl _) ?_)
  intro w1 hown hg1
  have u1 := below_grown hg1
  have hc1 := HasC.of_own hown
  clear hown hg1
  obtain ⟨cur, hcur, hcz, _⟩ := id hc1
  go_wp2_with (refine wpList_copy_k rfl _ _ 22 22 rfl 37 4 Tryd.underlying22 (by kernel_rfl) w.heap.size (l.length + 8) (l.length + 8) ad l.length cap rfl rfl cur 37 hcur cs ?_ ?_ C2.out ?_ C3.out ?_)
  · rw [CL.out]
  · intro ad' ha j u hu
    have := C1.out ad' ha j u hu
    exact cell_keep (u1.block _ (World.block_lt_of_cell? _ _ this)) this
  · rw [CL.out]; omega
  intro w2 hg2 hk2
  have U2 := hid (u1.trans (hk2.out.below (B := w.heap.size) (fun j hj => by omega) u1.size))
  have hO2 := hid (out_start (F := fun _ => False) (N := 4 * (l.length + 8)) hg2.out (by have e1 := CL.out; have e2 : cur.toList.length = cur.size := Array.length_toList; rw [List.length_drop]; omega) CL.out C4.out)
  clear u1 hc1 hcur hg2 hk2 C1 C2 C3 C4 CL HI
  clear hcz
  go_wp2_with fail
  go_loopw [6] (fun i wr => ∃ k : Nat, l.length ≤ k ∧ k ≤ l.length + 8 ∧ i = .int .i64 k ∧ Hid (Below w.heap.size w wr) ∧ Hid (HasC wr w.heap.size 37 (4 * (l.length + 8)) (OutQ wr (fun _ => False) l 0 k))) (fun i _ => l.length + 8 - (intOf i).toNat)
  case atStart => exact ⟨l.length, Nat.le_refl _, by omega, rfl, U2, hO2⟩
  case round =>
    obtain ⟨k, hk1, hk2, rfl, hup, hO⟩ := hrel
    by_cases hkl : k < l.length + 8
    · go_wp2_with fail
      go_at_call 20
      refine (bad0_any wr).mono ?_
      rintro e w3 ⟨rfl, u3⟩
      have hO3 := hid (out_zero (w' := w3) (F' := fun _ => False) hO.out (u3.block _ hO.out.lt))
      have U3 := hid (hup.out.trans (u3.mono hup.out.size))
      clear u3
      obtain ⟨v0, x0, y0⟩ := has_cell (j := k * 4) hO3.out (by omega)
      obtain ⟨v1, x1, y1⟩ := has_cell (j := k * 4 + 1) hO3.out (by omega)
      obtain ⟨v2, x2, y2⟩ := has_cell (j := k * 4 + 2) hO3.out (by omega)
      obtain ⟨v3, x3, y3⟩ := has_cell (j := k * 4 + 3) hO3.out (by omega)
      go_wp2
      go_roundw
      case rel =>
        refine ⟨k + 1, by omega, by omega, by go_num, ?_, out_mark hO3.out hk1⟩
        exact (((U3.out.setCell (Nat.le_refl _) _).setCell (Nat.le_refl _) _).setCell (Nat.le_refl _) _).setCell (Nat.le_refl _) _
      case measure => simp [intOf]; omega
    · obtain rfl : k = l.length + 8 := by omega
      clear U2 hO2
      have hlt := hO.out.lt
      have hgF : ¬ S w.heap.size := fun e => by have := hL.lt e; omega
      have G0 : Hid (LS1 (fun j => j < w.heap.size ∨ j = w.heap.size) wr B w.heap.size l 0 es is [] [] S) := by
        refine ⟨by rw [List.append_nil, List.append_nil]; exact hL.below hup.out, hgF, Or.inr rfl, out_zero hO.out rfl, Rms.nil _ _ _⟩
      have N0 : Hid (Nx S w S wr) := Nx.of_below hup.out
      clear hO hup
      go_wp2_with fail
      go_loopw [7] (fun i wr => ∃ (k : Nat) (es' is' : List (Nat × Nat)) (S' : Nat → Prop), k ≤ l.length ∧ i = .int .i64 k ∧ Hid (LS1 (fun j => j < w.heap.size ∨ j = w.heap.size) wr B w.heap.size l k es is es' is' S') ∧ Hid (Nx S w S' wr) ∧ Hid ((∀ p ∈ es' ++ is', p.2 ≤ blk (n + 1) l) ∧ es'.length + is'.length ≤ ((l.take k).map (blkE (blk n))).sum)) (fun i _ => l.length - (intOf i).toNat)
      case atStart => exact ⟨0, [], [], S, Nat.zero_le _, rfl, G0, N0, (fun p hp => nomatch hp), by simp⟩
      case round =>
        obtain ⟨k, es', is', S', hk, rfl, hG, hN, hB⟩ := hrel
        by_cases hkl : k < l.length
        · have hrdA := hid (h.keep (w' := wr) (F' := F) (fun _ h => h) (fun j hj _ => hN.out.1.block (hF j hj).1 (hF j hj).2))
          obtain ⟨a, ad2, cap2, rfl, hFa, c0, c1, c2, c3, hrd⟩ := hrdA.out.at (List.getElem?_eq_getElem hkl)
          have hxk := hid (List.getElem?_eq_getElem hkl)
          have hful := hid (hfu l[k] (List.getElem_mem hkl))
          have hsum := sum_take (blkE (blk n)) l k hkl
          have hsum2 := sum_take_le (blkE (blk n)) l (k + 1)
          have hbi := blkE_its (blk n) l[k]
          generalize l[k] = x at c3 hrd hxk hful hsum hbi
          obtain ⟨t, kd, u, its⟩ := x
          simp only at c3 hrd hful hbi
          have hblk := blk_succ n l
          have hbe : blkE (blk n) (t, kd, u, its) = 4 + kd.length + u.length + (its.map (fun s => 1 + blk n s)).sum := rfl
          have hbx : Hid (((l.take k).map (blkE (blk n))).sum + 5 + (its.map (fun s => 1 + blk n s)).sum ≤ blk (n + 1) l ∧ ((l.take (k + 1)).map (blkE (blk n))).sum = ((l.take k).map (blkE (blk n))).sum + blkE (blk n) (t, kd, u, its) ∧ 4 + (its.map (fun s => 1 + blk n s)).sum ≤ blkE (blk n) (t, kd, u, its)) := ⟨by omega, hsum, by omega⟩
          have hil : its.length ≤ 1073741824 := by omega
          clear hblk hbe hsum hsum2 hbi
          clear c0 c1 c2 hrdA
          obtain ⟨gi, egi⟩ : ∃ gi, wr.heap.size = gi := ⟨_, rfl⟩
          have hgw : w.heap.size < gi := by have := hG.out.2.2.2.1.lt; omega
          have hgS : ¬ S' gi := fun e => by have := hG.out.1.lt e; omega
          obtain ⟨i1, hi1, hy0, hy1, hy2⟩ := info_parts info_it
          have HJ := hid hi1
          clear hi1
          go_wp2_with (at_make; refine wpList_make_full _ rfl _ _ 35 rfl wr.heap.size 52 i1 _ 1 Tryd.underlying35 HJ.out hy0 hy1 .i64 .i64 _ _ (its.length + 8) rfl rfl (by simp) (by simp) (by rw [hy2]; omega) (by unfold maxLen; omega) (Nat.le_refl _) ?_)
          intro w4 hown hg4
          have u4 := below_grown hg4
          have hc4 := HasC.of_own hown
          rw [Nat.mul_one] at hc4
          have I4 := hid (it_start (n := n) (F := Fz (fun j => (j < w.heap.size ∨ j = w.heap.size) ∨ j = gi) S' w4) (its := its) hc4)
          have G4 := hid ((hG.out.aside (b := gi) (Nat.le_of_eq egi)).below u4)
          have N4 := hid (hN.out.trans (Nx.of_below u4))
          have Z4 := hid u4.size
          clear hown hg4 u4 hc4 HJ hy0 hy1 hy2 c3
          go_wp2_with fail
          clear egi
          go_loopw [10] (fun i wi => ∃ (j : Nat) (es2 is2 : List (Nat × Nat)) (S2 : Nat → Prop), j ≤ its.length + 8 ∧ i = .int .i64 j ∧ Hid (LS1 (fun j => (j < w.heap.size ∨ j = w.heap.size) ∨ j = gi) wi B w.heap.size l k es is es2 is2 S2) ∧
              Hid (HasC wi gi 52 (its.length + 8) (ItQ wi (Fz (fun j => (j < w.heap.size ∨ j = w.heap.size) ∨ j = gi) S2 wi) its j)) ∧ Hid (Nx S w S2 wi) ∧ Hid (¬ S2 gi) ∧
              Hid ((∀ p ∈ es2 ++ is2, p.2 ≤ blk (n + 1) l) ∧ es2.length + is2.length ≤ ((l.take k).map (blkE (blk n))).sum + ((its.take j).map (fun s => 1 + blk n s)).sum)) (fun i _ => its.length + 8 - (intOf i).toNat)
          case atStart => exact ⟨0, es', is', S', Nat.zero_le _, rfl, G4, I4, N4, hgS, hB.out.1, by have := hB.out.2; rw [List.take_zero, List.map_nil, List.sum_nil]; omega⟩
          case round =>
            obtain ⟨j, es2, is2, S2, hj, rfl, hG2, hI2, hN2, hS2, hB2⟩ := hrel
            have hz2 := hid hI2.out.lt
            by_cases hjl : j < its.length + 8
            · go_wp2_with fail
              go_at_call 21
              refine (badItem_any _ 0 (by decide) (by decide)).mono ?_
              rintro e w5 ⟨b5, rfl, u5, hb5, hbad⟩
              have G5 := hid (hG2.out.below u5)
              have I5 := hid (it_nx hI2.out hS2.out (Nx.of_below u5))
              have N5 := hid (hN2.out.trans (Nx.of_below u5))
              have B5 := hid (show Fz (fun j => (j < w.heap.size ∨ j = w.heap.size) ∨ j = gi) S2 w5 b5 from ⟨by have := hz2.out; have := hG2.out.2.2.2.1.lt; omega, fun e => by have := hG2.out.1.lt e; omega, lt_of_block hbad⟩)
              have D5 := hid hbad
              clear u5 hb5 hbad
              obtain ⟨vc, q0, q1⟩ := has_cell (j := j) I5.out hjl
              have hgi1 : gi ≠ w.heap.size := by omega
              have G6 := hid (G5.out.set (p := ⟨gi, j, none⟩) (Or.inr rfl) hgi1 hS2.out (.slice (some ⟨b5, 0, none⟩) 1 1))
              have N6 := hid (N5.out.set (p := ⟨gi, j, none⟩) (show w.heap.size ≤ gi by omega) (.slice (some ⟨b5, 0, none⟩) 1 1))
              by_cases hjt : j < its.length
              · have I6 := hid (it_again I5.out (Or.inr rfl) (.slice (some ⟨b5, 0, none⟩) 1 1))
                clear G5 N5 I5 B5 D5
                obtain ⟨a', ad3, cap3, ea, _, _, _, _, c3, hrd3⟩ := (h.keep (w' := w5.setCell ⟨gi, j, none⟩ (.slice (some ⟨b5, 0, none⟩) 1 1)) (F' := F) (fun _ h => h) (fun j hj _ => N6.out.1.block (hF j hj).1 (hF j hj).2)).at hxk.out
                obtain rfl := Option.some.inj ea
                simp only at c3 hrd3
                obtain ⟨a2, ad4, cap4, rfl, _, d3, hrd4⟩ := hrd3.at (List.getElem?_eq_getElem hjt)
                have hfy := hid (hful.out its[j] (List.getElem_mem hjt))
                have hyj := hid (List.getElem?_eq_getElem hjt)
                have hsy := sum_take (fun s => 1 + blk n s) its j hjt
                have hsy2 := sum_take_le (fun s => 1 + blk n s) its (j + 1)
                generalize its[j] = y at d3 hrd4 hfy hsy hyj
                have R4 := hid hrd4
                have hyl := blk_len n y
                have hnum : Hid (es.length + es2.length + (is.length + is2.length) + blk n y ≤ 1073741824 ∧ es2.length + is2.length + blk n y ≤ ((l.take k).map (blkE (blk n))).sum + ((its.take (j + 1)).map (fun s => 1 + blk n s)).sum ∧ blk n y ≤ blk (n + 1) l ∧ y.length ≤ blk n y) := by
                  have := hB2.out.2
                  have := hbx.out.1
                  exact ⟨by omega, by omega, by omega, hyl⟩
                clear hrd4 hrd3 ea hsy hsy2 hyl
                go_wp2_with fail
                go_at_call 7
                generalize w5.setCell ⟨gi, j, none⟩ (.slice (some ⟨b5, 0, none⟩) 1 1) = w6 at G6 N6 I6 R4 ⊢
                clear q0 q1 c3 d3
                obtain ⟨m, rfl⟩ : ∃ m, n = m + 1 := by
                  cases n with
                  | zero => exact hfy.out.elim
                  | succ m => exact ⟨m, rfl⟩
                refine (H m rfl F w6 B _ y (es ++ es2) (is ++ is2) S2 R4.out hfy.out G6.out.1 (fun i hi => ⟨Nat.lt_of_lt_of_le (hF i hi).1 N6.out.1.size, N6.out.out (hF i hi).2 (hF i hi).1⟩) (by
                  have := hnum.out.1
                  rw [List.length_append, List.length_append]
                  omega)).mono ?_
                rintro e w7 ⟨g2, es3, is3, S3, rfl, hg2, hL3, hN3, hS3, hO3, hR3, hB3, hC3⟩
                have hgl : gi < w6.heap.size := I6.out.lt
                have hXl : ∀ i, ((i < w.heap.size ∨ i = w.heap.size) ∨ i = gi) → i < w6.heap.size := fun i hi => by omega
                have R7 := (lent_rms (X := fun j => j < w6.heap.size) hR3 (by omega) hS3 hO3).turn (X' := fun j => (j < w.heap.size ∨ j = w.heap.size) ∨ j = gi) (fun i hi e => hi.1 (hXl i e))
                have G7 := hid (G6.out.nx hN3 (by rw [List.append_assoc, List.append_assoc] at hL3; exact hL3) R7)
                have I7 := hid (it_nx I6.out hS2.out hN3)
                have N7 := hid (N6.out.trans hN3)
                have S7 := hid (hN3.out hS2.out hgl)
                have O7 := hid (out_rd (cap := y.length + 8) (F' := Fz (fun j => (j < w.heap.size ∨ j = w.heap.size) ∨ j = gi) S3 w7) hO3 (fun i hi => ⟨fun e => hi.1 (Or.inl (hXl i e)), hi.2⟩) ⟨fun e => by have := hXl _ e; omega, hS3, hO3.lt⟩)
                have hnum2 : Hid ((∀ p ∈ (es2 ++ (es3 ++ [(g2, y.length)])) ++ (is2 ++ is3), p.2 ≤ blk (m + 1 + 1) l) ∧ (es2 ++ (es3 ++ [(g2, y.length)])).length + (is2 ++ is3).length ≤ ((l.take k).map (blkE (blk (m + 1)))).sum + ((its.take (j + 1)).map (fun s => 1 + blk (m + 1) s)).sum) := by
                  obtain ⟨_, n2, n3, n4⟩ := hnum.out
                  refine ⟨fun p hp => ?_, by simp only [List.length_append, List.length_singleton]; omega⟩
                  simp only [List.mem_append, List.mem_singleton] at hp
                  rcases hp with (hp | hp | rfl) | hp | hp
                  · exact hB2.out.1 p (List.mem_append_left _ hp)
                  · exact Nat.le_trans (hB3 p (List.mem_append_left _ hp)) n3
                  · exact Nat.le_trans n4 n3
                  · exact hB2.out.1 p (List.mem_append_right _ hp)
                  · exact Nat.le_trans (hB3 p (List.mem_append_right _ hp)) n3
                clear hL3 hN3 hS3 hO3 hR3 hB3 hC3 R7 hg2 hgl hXl
                obtain ⟨vd, q2, q3⟩ := has_cell (j := j) I7.out hjl
                have G8 := hid (G7.out.set (p := ⟨gi, j, none⟩) (Or.inr rfl) hgi1 S7.out (.slice (some ⟨g2, 0, none⟩) y.length (y.length + 8)))
                have N8 := hid (N7.out.set (p := ⟨gi, j, none⟩) (show w.heap.size ≤ gi by omega) (.slice (some ⟨g2, 0, none⟩) y.length (y.length + 8)))
                have I8 := hid (it_set I7.out (Or.inr rfl) (.slice (some ⟨g2, 0, none⟩) y.length (y.length + 8)) ⟨fun s hs => by
                  rw [hyj.out] at hs
                  obtain rfl := Option.some.inj hs
                  exact O7.out, fun e => by omega⟩)
                go_wp2
                go_roundw
                case rel => exact ⟨j + 1, _, _, S3, by omega, by go_num, G8, I8, N8, S7, hnum2⟩
                case measure => simp [intOf]; omega
              · have I6 := hid (it_set I5.out (Or.inr rfl) (.slice (some ⟨b5, 0, none⟩) 1 1) ⟨fun s hs => by have := (List.getElem?_eq_some_iff.1 hs).1; omega, fun _ => ⟨b5, B5.out, rfl, D5.out⟩⟩)
                clear G5 N5 I5 B5 D5
                go_wp2
                go_roundw
                case rel => exact ⟨j + 1, es2, is2, S2, by omega, by go_num, G6, I6, N6, hS2, hB2.out.1, by have := hB2.out.2; have := sum_take_mono (fun s => 1 + blk n s) its j; omega⟩
                case measure => simp [intOf]; omega
            · obtain rfl : j = its.length + 8 := by omega
              have hXgi : ¬ (gi < w.heap.size ∨ gi = w.heap.size) := by omega
              obtain ⟨G9, RM9, FZ9⟩ := LS1.items (X := fun j => j < w.heap.size ∨ j = w.heap.size) hG2.out (Or.inr rfl) hXgi hS2.out hxk.out hI2.out (its.length + 8)
              obtain ⟨vo, p0, p1⟩ := has_cell (j := k * 4 + 3) hG2.out.2.2.2.1 (by omega)
              have N9 := hid (hN2.out.set (p := ⟨w.heap.size, k * 4 + 3, none⟩) (Nat.le_refl _) (.slice (some ⟨gi, 0, none⟩) its.length (its.length + 8)))
              obtain ⟨v0, v1, v2, v3, EE, NN, II, CC, hEq, hRw, hSe⟩ := G9.1.unpack
              obtain ⟨⟨_, _, b2, b3⟩, _, _, f2, f3⟩ := ln_cells hRw
              obtain ⟨_, _, r2, r3⟩ := ln_rows hRw
              obtain ⟨ad5, cap5, rfl⟩ := row_slice r2
              obtain ⟨i2, hi2, hs0, hs1, hs2⟩ := info_parts info_its
              have HK := hid hi2
              have hsl : (its.length : Int) ≤ (its.length : Int) + 8 := by omega
              have hln : II.length ≤ 1073741824 ∧ CC.length ≤ 1073741824 := by
                have h1 := hB2.out.2
                have h2 := hbx.out.1
                rw [List.take_of_length_le (l := its) (by omega)] at h1
                obtain ⟨_, _, e3, e4⟩ := hEq.out
                rw [e3, e4, List.length_map, List.length_map, List.length_append]
                omega
              obtain ⟨hln1, hln2⟩ := hln
              have R2 := hid r2
              have R3 := hid r3
              have RW := hid hRw
              have SE := hid hSe
              have G9' := hid G9
              have RM9' := hid RM9
              have FZ9' := hid FZ9
              clear hi2 r2 r3 hRw hSe G9 RM9 FZ9
              go_wp2_with (at_builtin; refine wpList_append_sep _ rfl _ _ 27 rfl 35 i2 _ 1 24 Tryd.underlying27 HK.out hs0 hs1 hs2 rfl (by decide) _ _ _ rfl (R2.out.alloc _) ⟨wr.heap.size, 0, none⟩ 1 1 [.slice (some ⟨gi, 0, none⟩) (its.length + 8) (its.length + 8)] rfl rfl (one_new _ _ _ _ (by simp)) (by simp [Value.oneCell']) (by unfold maxLen; omega) (by omega) ?_)
              intro v2' w10 hown' hg' hm'
              obtain ⟨g2', cap2', rfl⟩ := own_slice hown'
              have hBk := ln_kept (f := 2) RW.out rfl (Below.alloc (Below.refl _ _) (Nat.le_refl _) _) hg'
              obtain ⟨S10, L10, M10⟩ := lq_push (f := 2) (by decide) RW.out rfl (Below.alloc (Below.refl _ _) (Nat.le_refl _) _) hown' hg' hm'
              rw [← SE.out] at M10
              obtain ⟨v0', v1', v2'', v3', hRw2, hSe2⟩ := L10
              obtain ⟨⟨_, _, _, b3'⟩, _, _, _, f3'⟩ := ln_cells hRw2
              obtain ⟨_, _, _, r3'⟩ := ln_rows hRw2
              have b2' := cell_keep (p := ⟨B, 2, none⟩) hBk b2
              have f2' := (World.frozen?_of_block (a := ⟨B, 2, none⟩) hBk).trans f2
              obtain ⟨ad6, cap6, rfl⟩ := row_slice r3'
              obtain ⟨i3, hi3, ht0, ht1, ht2⟩ := info_parts info_int
              have HK3 := hid hi3
              have R3' := hid r3'
              have RW2 := hid hRw2
              have SE2 := hid hSe2
              have M10' := hid M10
              clear hi3 r3' hRw2 hSe2 M10 hown' hg' hm' hBk b2 b3 f2 f3 p0 p1 R2 R3 HK hs0 hs1 hs2
              go_wp2_with (at_builtin; refine wpList_append_sep _ rfl _ _ 26 rfl 3 i3 _ 1 8 Tryd.underlying26 HK3.out ht0 ht1 ht2 rfl (by decide) _ _ _ rfl (R3'.out.alloc _) ⟨w10.heap.size, 0, none⟩ 1 1 [.int .i64 its.length] rfl rfl (one_new _ _ _ _ (by simp)) (by simp [Value.oneCell']) (by unfold maxLen; simp only [put4]; omega) (by simp only [put4]; omega) ?_)
              intro v3'' w12 hown' hg' hm'
              obtain ⟨g3', cap3', rfl⟩ := own_slice hown'
              have hBk := ln_kept (f := 3) RW2.out rfl (Below.alloc (Below.refl _ _) (Nat.le_refl _) _) hg'
              obtain ⟨S12, L12, M12⟩ := lq_push (f := 3) (by decide) RW2.out rfl (Below.alloc (Below.refl _ _) (Nat.le_refl _) _) hown' hg' hm'
              rw [← SE2.out] at M12
              have b3'' := cell_keep (p := ⟨B, 3, none⟩) hBk b3'
              have f3'' := (World.frozen?_of_block (a := ⟨B, 3, none⟩) hBk).trans f3'
              have M := hid (M10'.out.trans M12)
              have hB13 : Hid ((∀ p ∈ (es2 ++ []) ++ (is2 ++ [(gi, its.length)]), p.2 ≤ blk (n + 1) l) ∧ (es2 ++ []).length + (is2 ++ [(gi, its.length)]).length ≤ ((l.take (k + 1)).map (blkE (blk n))).sum) := by
                have h1 := hB2.out.2
                obtain ⟨h2, h3, h4⟩ := hbx.out
                rw [List.take_of_length_le (l := its) (by omega)] at h1
                have h5 := sum_len (f := fun s => 1 + blk n s) 1 (l := its) (fun s _ => by omega)
                refine ⟨fun p hp => ?_, by simp only [List.length_append, List.length_singleton, List.length_nil]; omega⟩
                simp only [List.append_nil, List.mem_append, List.mem_singleton] at hp
                rcases hp with hp | hp | rfl
                · exact hB2.out.1 p (List.mem_append_left _ hp)
                · exact hB2.out.1 p (List.mem_append_right _ hp)
                · show its.length ≤ _
                  omega
              have G13 := hid (G9'.out.nx (es2 := []) (is2 := [(gi, its.length)]) M.out (by
                obtain ⟨e1, e2, e3, e4⟩ := hEq.out
                show Ln4 _ B _ _ _ _ S12
                rw [List.append_nil, ← List.append_assoc, show List.map eV (is ++ is2 ++ [(gi, its.length)]) = List.map eV (is ++ is2) ++ [eV (gi, its.length)] from List.map_append, show List.map nV (is ++ is2 ++ [(gi, its.length)]) = List.map nV (is ++ is2) ++ [nV (gi, its.length)] from List.map_append, ← e1, ← e2, ← e3, ← e4]
                exact L12) ⟨fun _ h => (nomatch h), fun p hp => by
                obtain rfl : p = (gi, its.length) := by simpa using hp
                exact ⟨(M.out.pr gi FZ9'.out).2, RM9'.out.up (M.out.pr gi FZ9'.out).1 M.out.pr⟩⟩)
              have N13 := hid (N9.out.trans M.out)
              clear L12 M12 hown' hg' hm' hBk b3' f3' M10' SE2 RW2 R3' HK3 ht0 ht1 ht2 b2' f2'
              go_wp2
              go_roundw
              case rel => first | exact ⟨k + 1, _, _, S12, by omega, by go_num, G13, N13, hB13⟩ | ((repeat apply Exists.intro); exact ⟨⟨k + 1, _, _, S12, by omega, by go_num, G13, N13, hB13⟩, rfl⟩)
              case measure => simp [intOf]; omega
        · obtain rfl : k = l.length := by omega
          have hO' := hid hG.out.2.2.2.1
          have hlb2 := hB.out.2
          rw [List.take_of_length_le (Nat.le_refl _)] at hlb2
          have hblk := blk_succ n l
          obtain ⟨v0, v1, v2, v3, EE, NN, II, CC, hEq, hRw, hSe⟩ := hG.out.1.unpack
          obtain ⟨⟨b0, b1, _, _⟩, f0, f1, _, _⟩ := ln_cells hRw
          obtain ⟨r0, r1, _, _⟩ := ln_rows hRw
          obtain ⟨ad5, cap5, rfl⟩ := row_slice r0
          obtain ⟨i2, hi2, hs0, hs1, hs2⟩ := info_parts info_els
          have HK := hid hi2
          have hln : EE.length ≤ 1073741824 ∧ NN.length ≤ 1073741824 := by
            obtain ⟨e1, e2, _, _⟩ := hEq.out
            rw [e1, e2, List.length_map, List.length_map, List.length_append]
            omega
          obtain ⟨hln1, hln2⟩ := hln
          have hB14 : Hid ((∀ p ∈ es' ++ is', p.2 ≤ blk (n + 1) l) ∧ es'.length + is'.length + 1 ≤ blk (n + 1) l) := ⟨hB.out.1, by omega⟩
          have hsl : (l.length : Int) ≤ (l.length : Int) + 8 := by omega
          have R0 := hid r0
          have RW := hid hRw
          have SE := hid hSe
          clear hi2 r0 r1 hRw hSe hblk hlb2
          go_wp2_with (at_builtin; refine wpList_append_sep _ rfl _ _ 25 rfl 22 i2 _ 1 24 Tryd.underlying25 HK.out hs0 hs1 hs2 rfl (by decide) _ _ _ rfl (R0.out.alloc _) ⟨wr.heap.size, 0, none⟩ 1 1 [.slice (some ⟨w.heap.size, 0, none⟩) (l.length + 8) (l.length + 8)] rfl rfl (one_new _ _ _ _ (by simp)) (by simp [Value.oneCell']) (by unfold maxLen; omega) (by omega) ?_)
          intro v0' w10 hown' hg' hm'
          obtain ⟨g2', cap2', rfl⟩ := own_slice hown'
          have hBk := ln_kept (f := 0) RW.out rfl (Below.alloc (Below.refl _ _) (Nat.le_refl _) _) hg'
          obtain ⟨S10, L10, M10⟩ := lq_push (f := 0) (by decide) RW.out rfl (Below.alloc (Below.refl _ _) (Nat.le_refl _) _) hown' hg' hm'
          rw [← SE.out] at M10
          obtain ⟨v0'', v1', v2', v3', hRw2, hSe2⟩ := L10
          obtain ⟨⟨_, b1', _, _⟩, _, f1', _, _⟩ := ln_cells hRw2
          obtain ⟨_, r1', _, _⟩ := ln_rows hRw2
          have b0' := cell_keep (p := ⟨B, 0, none⟩) hBk b0
          have f0' := (World.frozen?_of_block (a := ⟨B, 0, none⟩) hBk).trans f0
          obtain ⟨ad6, cap6, rfl⟩ := row_slice r1'
          obtain ⟨i3, hi3, ht0, ht1, ht2⟩ := info_parts info_int
          have HK3 := hid hi3
          have R1' := hid r1'
          have RW2 := hid hRw2
          have SE2 := hid hSe2
          have M10' := hid M10
          clear hi3 r1' hRw2 hSe2 M10 hown' hg' hm' hBk b0 b1 f0 f1 R0 HK hs0 hs1 hs2
          go_wp2_with (at_builtin; refine wpList_append_sep _ rfl _ _ 26 rfl 3 i3 _ 1 8 Tryd.underlying26 HK3.out ht0 ht1 ht2 rfl (by decide) _ _ _ rfl (R1'.out.alloc _) ⟨w10.heap.size, 0, none⟩ 1 1 [.int .i64 l.length] rfl rfl (one_new _ _ _ _ (by simp)) (by simp [Value.oneCell']) (by unfold maxLen; simp only [put4]; omega) (by simp only [put4]; omega) ?_)
          intro v1'' w12 hown' hg' hm'
          obtain ⟨g3', cap3', rfl⟩ := own_slice hown'
          have hBk := ln_kept (f := 1) RW2.out rfl (Below.alloc (Below.refl _ _) (Nat.le_refl _) _) hg'
          obtain ⟨S12, L12, M12⟩ := lq_push (f := 1) (by decide) RW2.out rfl (Below.alloc (Below.refl _ _) (Nat.le_refl _) _) hown' hg' hm'
          rw [← SE2.out] at M12
          have b1'' := cell_keep (p := ⟨B, 1, none⟩) hBk b1'
          have f1'' := (World.frozen?_of_block (a := ⟨B, 1, none⟩) hBk).trans f1'
          have M := hid (M10'.out.trans M12)
          have L13 := hid L12
          clear L12 M12 hown' hg' hm' hBk b1' f1' M10' SE2 RW2 R1' HK3 ht0 ht1 ht2 b0' f0'
          go_wp2
          go_ret
          refine ⟨w.heap.size, es', is', S12, rfl, Nat.le_refl _, ?_, hN.out.trans M.out, M.out.out hG.out.2.1 hO'.out.lt, hO'.out.keep (M.out.1.block hO'.out.lt hG.out.2.1) (fun _ _ _ hv => hv.up M.out.pr), hG.out.2.2.2.2.up M.out.pr, hB14.out⟩
          obtain ⟨e1, e2, e3, e4⟩ := hEq.out
          show Ln4 _ B _ _ _ _ S12
          rw [← List.append_assoc, show List.map eV (es ++ es' ++ [(w.heap.size, l.length)]) = List.map eV (es ++ es') ++ [eV (w.heap.size, l.length)] from List.map_append, show List.map nV (es ++ es' ++ [(w.heap.size, l.length)]) = List.map nV (es ++ es') ++ [nV (w.heap.size, l.length)] from List.map_append, ← e1, ← e2, ← e3, ← e4]
          exact L13.out
theorem lent_any : ∀ n, LT n
  | 0 => lent_step 0 (fun m h => by omega)
  | n + 1 => lent_step (n + 1) (fun m h => by obtain rfl : n = m := by omega
                                              exact lent_any n)
end Go.Proofs.YtaokifbpakbgdaaDoor
