/-
  Package archive, from its leaves up: kindOf, isKept, isInParts, wordsOf, parts.
-/
import Derived.Test.YtaokifbpakbgdaaGreatDoorArR2
import Derived.Test.YtaokifbpakbgdaaGreatDoorWr2
namespace Go.Proofs.YtaokifbpakbgdaaGreatDoor
open Go.RowKit

theorem four_at (w : World) (T : TypeId) (c0 c1 c2 c3 : Value) (b : Nat) (hb : b = w.heap.size) : ∀ j u, [c0, c1, c2, c3][j]? = some u → (w.alloc (.cells #[c0, c1, c2, c3] T)).cell? ((⟨b, 0, none⟩ : Addr).add j) = some u := by
  subst hb
  exact four_cells w T c0 c1 c2 c3
theorem kindOf_any (w : World) (t : Int) : Calls Tryz.prog 178 #[.int .i64 t] w fun e w' => e = .returned (.string (bs (kindT t))) ∧ w' = w := by
  go_enter Tryz.func178, Tryz.ntmps178
  go_wp2
  all_goals go_ret
  all_goals refine ⟨?_, rfl⟩
  all_goals simp_all [kindT, bs]
theorem isInParts_any (w : World) (t : Int) : Calls Tryz.prog 260 #[.int .i64 t] w fun e w' => e = .returned (.bool (isWord t)) ∧ w' = w := by
  go_enter Tryz.func260, Tryz.ntmps260
  go_wp2
  all_goals go_ret
  all_goals refine ⟨?_, rfl⟩
  all_goals first | (simp_all [isWord]; done) | rfl
theorem isKept_any (w : World) (t : Int) : Calls Tryz.prog 155 #[.int .i64 t] w fun e w' => e = .returned (.bool (isKept t)) ∧ w' = w := by
  go_enter Tryz.func155, Tryz.ntmps155
  go_wp2_with (go_at_call 178; refine (kindOf_any _ _).mono ?_; rintro e w1 ⟨rfl, rfl⟩)
  all_goals go_ret
  all_goals refine ⟨?_, rfl⟩
  all_goals simp_all [isKept, bs_toList]
  all_goals cases kindT t <;> rfl
/-- What lies in F, and what was laid since. -/
def Nw (F : Nat → Prop) (w w' : World) (j : Nat) : Prop := F j ∨ (w.heap.size ≤ j ∧ j < w'.heap.size)
theorem up_append4 {w wr w2 : World} {e : TypeId} {k : Nat} {v : Value} {n : Nat} {xs : List Value} (hU : Below w.heap.size w wr) (hown : wr.ownsRow w.heap.size e k v n xs) (hg : wr.grownBy w2 v.ownBlock) : Below w.heap.size w w2 :=
  Below.grown hU hg hU.size (fun j hj => (hown.lt j hj).1)
/-- Cells that were copied. -/
def CpE (w : World) (F : Nat → Prop) (n : Nat) (c : List Value) (x : El (n + 1)) (b : List Nat) : Prop := b = [] ∧ ∃ iv, c = [.int .i64 x.1, .string (bs x.2.1), .string (bs x.2.2.1), iv] ∧ RdI w F n iv x.2.2.2
theorem ownsRow_low {w : World} {base : Nat} {e : TypeId} {k : Nat} {v : Value} {n : Nat} {xs : List Value} (h : w.ownsRow base e k v n xs) : w.ownsRow 0 e k v n xs := by
  obtain ⟨q1, q2⟩ := h
  rcases q2 with ⟨rfl, q2⟩ | ⟨g, cap, cur, rfl, q2, q3⟩
  · exact ⟨q1, Or.inl ⟨rfl, q2⟩⟩
  · exact ⟨q1, Or.inr ⟨g, cap, cur, rfl, Nat.zero_le _, q3⟩⟩
theorem rd_cp {w w' : World} {F F' : Nat → Prop} {n : Nat} {v : Value} {l : List (El (n + 1))} {b : List Nat} (hr : Row w' 73 4 (CpE w F n) v l b) (hu : Below w.heap.size w w')
    (hF : ∀ j, F j → F' j) (hv : ∀ j ∈ b, F' j) : Rd w' F' (n + 1) v l := by
  refine Row.read hr F' hv _ (fun a c x b _ _ => ?_)
  rintro ⟨_, iv, rfl, h1⟩ _ _ hc
  have c0 := hc 0 _ rfl
  rw [Addr.add_zero'] at c0
  exact ⟨c0, hc 1 _ rfl, hc 2 _ rfl, iv, hc 3 _ rfl, h1.keep hF (fun j _ hj => hu.block j hj)⟩
theorem CpE.back {w w' : World} {F : Nat → Prop} {n : Nat} {c : List Value} {x : El (n + 1)} {b : List Nat} (h : CpE w' F n c x b) (hF : ∀ j, F j → j < w.heap.size) (hu : Below w.heap.size w w') : CpE w F n c x b := by
  obtain ⟨h1, iv, h2, h3⟩ := h
  exact ⟨h1, iv, h2, h3.keep (fun _ h => h) (fun j hj _ => (hu.block j (hF j hj)).symm)⟩
def wordsL {n : Nat} (l : List (El (n + 1))) : List (El (n + 1)) := l.filter (fun x => isWord x.1)
theorem wordsL_take {n : Nat} {l : List (El (n + 1))} {k : Nat} (h : k < l.length) : wordsL (l.take (k + 1)) = if isWord l[k].1 = true then wordsL (l.take k) ++ [l[k]] else wordsL (l.take k) := by
  unfold wordsL
  rw [List.take_succ_eq_append_getElem h, List.filter_append]
  by_cases h1 : isWord l[k].1 = true
  · rw [if_pos h1, List.filter_cons_of_pos (p := fun x : El (n + 1) => isWord x.1) h1, List.filter_nil]
  · rw [if_neg h1, List.filter_cons_of_neg (p := fun x : El (n + 1) => isWord x.1) h1, List.filter_nil, List.append_nil]
theorem info_element : (Tryz.prog.info? 73).map (fun i => (i.zero, i.size, i.bytes)) = some (some zeroE, 4, 64) := by kernel_rfl
theorem own_new {w w' : World} {e : TypeId} {k : Nat} {v : Value} {n : Nat} {xs : List Value} (h : w'.ownsRow w.heap.size e k v n xs) : New w w' v.ownBlock.toList := by
  refine ⟨?_, fun j hj => ⟨(h.lt j (by simpa using hj)).1, ownsRow_lt h j hj⟩⟩
  cases v.ownBlock <;> simp
theorem Row.slice {α : Type} {w : World} {T : TypeId} {k : Nat} {R : List Value → α → List Nat → Prop} {v : Value} {l : List α} {bl : List Nat} (h : Row w T k R v l bl) : ∃ ad cap, v = .slice ad l.length cap := by
  obtain ⟨xs, cs, ⟨_, h1⟩, _⟩ := h
  rcases h1 with ⟨rfl, h1⟩ | ⟨g, cap, cur, rfl, _⟩
  · exact ⟨_, _, by rw [h1]⟩
  · exact ⟨_, _, rfl⟩
set_option maxRecDepth 20000 in
theorem wordsOf_any (n : Nat) (F : Nat → Prop) (w : World) (v : Value) (l : List (El (n + 1))) (h : Rd w F (n + 1) v l) (hl : l.length ≤ 24) :
    Calls Tryz.prog 216 #[v] w fun e w' => ∃ v', e = .returned v' ∧ Below w.heap.size w w' ∧ Row w' 73 4 (CpE w F n) v' (wordsL l) v'.ownBlock.toList ∧ New w w' v'.ownBlock.toList := by
  obtain ⟨ad, cap, rfl⟩ := h.slice
  obtain ⟨i0, hi0, hz0, hz1, hz2⟩ := info_parts info_element
  have HI := hid hi0
  clear hi0
  go_enter Tryz.func216, Tryz.ntmps216
  go_wp2_with fail
  go_loopw [3, 8] (fun v i wr => ∃ (k : Nat) (xs : List Value), k ≤ l.length ∧ i = .int .i64 k ∧ Hid (wr.ownsRow w.heap.size 73 4 v (wordsL (l.take k)).length xs) ∧ Hid (Ls 4 (CpE w F n) xs (wordsL (l.take k)) []) ∧ Hid (Below w.heap.size w wr)) (fun _ i _ => l.length - (intOf i).toNat)
  case atStart => exact ⟨0, [], Nat.zero_le _, rfl, World.ownsRow_nil _ _ _ _, ⟨rfl, rfl⟩, Below.refl _ _⟩
  case round =>
    obtain ⟨k, xs, hk, rfl, hown, hls, hU⟩ := hrel
    by_cases hkl : k < l.length
    · have hat := hid (h.at (List.getElem?_eq_getElem hkl))
      obtain ⟨a, ad2, cap2, rfl, _, d0, d1, d2, d3, hrd⟩ := hat.out
      have c0 := hU.out.cell (World.block_lt_of_cell? _ _ d0) |>.trans d0
      have c1 := hU.out.cell (World.block_lt_of_cell? _ _ d1) |>.trans d1
      have c2 := hU.out.cell (World.block_lt_of_cell? _ _ d2) |>.trans d2
      have c3 := hU.out.cell (World.block_lt_of_cell? _ _ d3) |>.trans d3
      have hrd2 := hid hrd
      have hst := hid (wordsL_take hkl)
      have hlen := hid (show (wordsL (l.take k)).length ≤ 24 from Nat.le_trans (List.length_filter_le _ _) (by rw [List.length_take]; omega))
      clear hrd hat d0 d1 d2 d3
      generalize l[k] = x at c0 c1 c2 c3 hrd2 hst
      generalize wordsL (l.take k) = done at hown hls hst hlen
      have hX := (Four.new wr (.int .i64 x.1) (.string (bs x.2.1)) (.string (bs x.2.2.1)) (.slice ad2 x.2.2.2.length cap2)).cells
      obtain ⟨⟨x0, x1, x2, x3⟩, _⟩ := hX
      have U1 := hid (Below.alloc hU.out hU.out.size (.cells #[.int .i64 x.1, .string (bs x.2.1), .string (bs x.2.2.1), .slice ad2 x.2.2.2.length cap2] 73))
      have O1 := hid (hown.out.alloc (.cells #[.int .i64 x.1, .string (bs x.2.1), .string (bs x.2.2.1), .slice ad2 x.2.2.2.length cap2] 73))
      go_wp2_with fail
      go_at_call 260
      refine (isInParts_any _ x.1).mono ?_
      rintro e w1 ⟨rfl, rfl⟩
      by_cases hw : isWord x.1 = true
      · have hst2 := hid (hst.out.trans (if_pos hw))
        rw [hw]
        clear hst hw
        go_wp2_with (at_builtin; refine wpList_append_own _ rfl _ _ 59 rfl w.heap.size 73 i0 zeroE 4 64 Tryz.underlying59 HI.out hz0 hz1 hz2 rfl (by decide) _ _ _ rfl (O1.out.alloc _) ⟨wr.heap.size + 1, 0, none⟩ 1 1 [.int .i64 x.1, .string (bs x.2.1), .string (bs x.2.2.1), .slice ad2 x.2.2.2.length cap2] rfl rfl (four_at _ _ _ _ _ _ _ (by simp)) four_one (by have := hlen.out; unfold maxLen; omega) (by have := hlen.out; omega) (by have := U1.out.size; simp only [World.size_alloc] at this ⊢; omega) ?_)
        intro v' w3 hown' hg hne
        have U3 := hid (up_grow U1.out O1.out _ hg)
        have O3 := hid hown'
        clear hown' hg
        go_wp2
        go_roundw
        case rel =>
          refine ⟨k + 1, xs ++ [.int .i64 x.1, .string (bs x.2.1), .string (bs x.2.2.1), .slice ad2 x.2.2.2.length cap2], by omega, by go_num, ?_, ?_, U3⟩
          · unfold Hid
            rw [hst2.out, List.length_append]
            exact O3.out
          · unfold Hid
            rw [hst2.out]
            exact Ls.snoc (k := 4) (R := CpE w F n) (c := [.int .i64 x.1, .string (bs x.2.1), .string (bs x.2.2.1), .slice ad2 x.2.2.2.length cap2]) (b := []) rfl ⟨rfl, _, rfl, hrd2.out⟩ hls.out
        case measure => simp [intOf]; omega
      · have hst2 := hid (hst.out.trans (if_neg hw))
        have hw2 : isWord x.1 = false := by simpa using hw
        rw [hw2]
        clear hst hw hw2
        go_wp2
        go_roundw
        case rel =>
          refine ⟨k + 1, xs, by omega, by go_num, ?_, ?_, U1⟩
          · unfold Hid
            rw [hst2.out]
            exact O1.out
          · unfold Hid
            rw [hst2.out]
            exact hls.out
        case measure => simp [intOf]; omega
    · have hall : wordsL (l.take k) = wordsL l := by rw [List.take_of_length_le (by omega)]
      have O := hid hown.out
      have L := hid hls.out
      rw [hall] at O L
      clear hown hls hall
      go_wp2
      go_ret
      exact ⟨_, rfl, hU.out, ⟨xs, [], ownsRow_low O.out, L.out, by simp⟩, own_new O.out⟩
/-- Items whose elements were copied. -/
def CpI (w0 : World) (F : Nat → Prop) (n : Nat) (w : World) (c : List Value) (s : List (El (n + 1))) (b : List Nat) : Prop := ∃ sv, c = [sv] ∧ Row w 73 4 (CpE w0 F n) sv s b
theorem CpI.keep {w0 : World} {F : Nat → Prop} {n : Nat} (w w' : World) (c : List Value) (s : List (El (n + 1))) (b : List Nat) (h : CpI w0 F n w c s b) (k : ∀ j ∈ b, w'.heap[j]? = w.heap[j]?) : CpI w0 F n w' c s b := by
  obtain ⟨sv, h1, h2⟩ := h
  exact ⟨sv, h1, h2.keep k (fun _ _ _ _ _ h => h)⟩
theorem rdI_cp {w w' : World} {F F' : Nat → Prop} {n : Nat} {v : Value} {l : Its (n + 1)} {b : List Nat} (hr : Row w' 182 1 (CpI w F n w') v l b) (hu : Below w.heap.size w w')
    (hF : ∀ j, F j → F' j) (hv : ∀ j ∈ b, F' j) : RdI w' F' (n + 1) v l := by
  refine Row.read hr F' hv _ (fun a c x b _ _ => ?_)
  rintro ⟨sv, rfl, h1⟩ _ hb hc
  have c0 := hc 0 _ rfl
  rw [Addr.add_zero'] at c0
  exact ⟨sv, c0, rd_cp h1 hu hF (fun j hj => hv j (hb j hj))⟩
theorem info_item : (Tryz.prog.info? 182).map (fun i => (i.zero, i.size, i.bytes)) = some (some (.agg #[.slice none 0 0]), 1, 24) := by kernel_rfl
set_option maxRecDepth 20000 in
theorem aparts_any (n : Nat) (F : Nat → Prop) (w : World) (v : Value) (its : Its (n + 1)) (h : RdI w F (n + 1) v its) (hF : ∀ j, F j → j < w.heap.size) (hl : its.length ≤ 8) (hs : ∀ s ∈ its, s.length ≤ 24) :
    Calls Tryz.prog 156 #[v] w fun e w' => ∃ v' bl, e = .returned v' ∧ Below w.heap.size w w' ∧ Row w' 182 1 (CpI w F n w') v' (its.map wordsL) bl ∧ New w w' bl := by
  obtain ⟨ad, cap, rfl⟩ := h.slice
  obtain ⟨i0, hi0, hz0, hz1, hz2⟩ := info_parts info_item
  have HI := hid hi0
  have H := hid h
  have HF := hid hF
  have HS := hid hs
  clear hi0 h hF hs
  go_enter Tryz.func156, Tryz.ntmps156
  go_wp2_with fail
  go_loopw [3, 8] (fun o i wr => ∃ (k : Nat) (xs : List Value) (cs : List Nat), k ≤ its.length ∧ i = .int .i64 k ∧ Hid (wr.ownsRow 0 182 1 o ((its.take k).map wordsL).length xs) ∧ Hid (Ls 1 (CpI w F n wr) xs ((its.take k).map wordsL) cs) ∧ Hid (New w wr (o.ownBlock.toList ++ cs)) ∧ Hid (Below w.heap.size w wr)) (fun _ i _ => its.length - (intOf i).toNat)
  case atStart => exact ⟨0, [], [], Nat.zero_le _, rfl, World.ownsRow_nil _ _ _ _, ⟨rfl, rfl⟩, New.nil _ _, Below.refl _ _⟩
  case round =>
    obtain ⟨k, xs, cs, hk, rfl, hown, hls, hnew, hU⟩ := hrel
    by_cases hkl : k < its.length
    · have hat := hid ((H.out.up hU.out).at (List.getElem?_eq_getElem hkl))
      obtain ⟨a, ad2, cap2, rfl, _, c0, hrd⟩ := hat.out
      have hsl := HS.out _ (List.getElem_mem hkl)
      have hst := hid (show (its.take (k + 1)).map wordsL = (its.take k).map wordsL ++ [wordsL its[k]] by rw [List.take_succ_eq_append_getElem hkl, List.map_append]; rfl)
      have hrd2 := hid hrd
      have hlen := hid (show ((its.take k).map wordsL).length ≤ 8 by rw [List.length_map, List.length_take]; omega)
      clear hrd hat
      generalize its[k] = s at c0 hrd2 hst hsl
      generalize (its.take k).map wordsL = done at hown hls hst hlen
      go_wp2_with fail
      go_at_call 216
      have u0 : Below wr.heap.size wr (wr.alloc (.cells #[.slice ad2 s.length cap2] 182)) := Below.alloc (Below.refl _ _) (Nat.le_refl _) _
      refine (wordsOf_any n F _ _ s (hrd2.out.up u0) hsl).mono ?_
      rintro e w2 ⟨v2, rfl, u2, r2, n2⟩
      have u02 := u0.trans (u2.mono u0.size)
      have hold : ∀ j ∈ (Value.ownBlock _).toList ++ cs, w2.heap[j]? = wr.heap[j]? := fun j hj => u02.block j (hnew.out.2 j hj).2
      have hown2 := hid (ownsRow_keep hown.out (w' := w2) (fun j hj => hold j (List.mem_append_left _ hj)))
      have hls2 := hid (hls.out.mono (R' := CpI w F n w2) (fun c y b' hb' _ hr => hr.keep _ _ _ _ _ (fun j hj => hold j (List.mem_append_right _ (hb' j hj)))))
      have U2 := hid (hU.out.trans (u02.mono hU.out.size))
      have hx2 := hid (show CpI w F n w2 [v2] (wordsL s) v2.ownBlock.toList from ⟨v2, rfl, r2.keep (fun _ _ => rfl) (fun _ _ _ _ _ h => h.back HF.out (hU.out.trans (u0.mono hU.out.size)))⟩)
      have hnew2 := hid (New.add hnew.out (n2.from u0.size) hU.out.size u02.size)
      obtain ⟨ad3, cap3, rfl⟩ := r2.slice
      clear u0 u2 u02 hold r2 n2 hown hls hnew
      go_wp2_with (at_builtin; refine wpList_append_sep _ rfl _ _ 71 rfl 182 i0 _ 1 24 Tryz.underlying71 HI.out hz0 hz1 hz2 rfl (by decide) _ _ _ rfl (hown2.out.alloc _) ⟨w2.heap.size, 0, none⟩ 1 1 [.slice ad3 (wordsL s).length cap3] rfl rfl (one_at _ _ _) (by simp [Value.oneCell']) (by have := hlen.out; unfold maxLen; omega) (by have := hlen.out; omega) ?_)
      intro v' w3 hown' hg hv
      have R := hid (Row.push (R := CpI w F n) CpI.keep hls2.out rfl hx2.out U2.out.size hnew2.out hown' hg hv)
      have U4 := hid ((UpB.of_below (b := w.heap.size) (Below.alloc U2.out U2.out.size (.cells #[.slice ad3 (wordsL s).length cap3] 182))).grown hg (fun k hk => Or.inr ((hnew2.out.2 k (List.mem_append_left _ (List.mem_append_left _ (by rw [hk]; simp)))).1)) |>.below (Nat.le_refl _) (Nat.le_refl _))
      clear hown' hg hv
      go_wp2
      go_roundw
      case rel =>
        refine ⟨k + 1, xs ++ [.slice ad3 (wordsL s).length cap3], _, by omega, by go_num, ?_, ?_, R.out.2.2, U4⟩
        · unfold Hid
          rw [hst.out]
          exact R.out.2.1
        · unfold Hid
          rw [hst.out]
          exact R.out.1
      case measure => simp [intOf]; omega
    · have hall : (its.take k).map wordsL = its.map wordsL := by rw [List.take_of_length_le (by omega)]
      have O := hid hown.out
      have L := hid hls.out
      rw [hall] at O L
      clear hown hls hall
      go_wp2
      go_ret
      exact ⟨_, _, rfl, hU.out, ⟨xs, cs, O.out, L.out, rfl⟩, hnew.out⟩
end Go.Proofs.YtaokifbpakbgdaaGreatDoor
