/-
  Several texts in one; what each one has stands at its head.
-/
import Derived.Test.YtaokifbpakbgdaaGreatDoorPut7
import Derived.Test.YtaokifbpakbgdaaGreatDoorPut8
import Derived.Laws.AppendOwnNone
import Derived.Test.YtaokifbpakbgdaaGreatDoorPut4
/- Package archive, from its leaves up: kindOf, isKept, isInParts, wordsOf, parts. -/
namespace Go.Proofs.YtaokifbpakbgdaaGreatDoor
open Go.RowKit

theorem four_at (w : World) (T : TypeId) (c0 c1 c2 c3 : Value) (b : Nat) (hb : b = w.heap.size) : ∀ j u, [c0, c1, c2, c3][j]? = some u → (w.alloc (.cells #[c0, c1, c2, c3] T)).cell? ((⟨b, 0, none⟩ : Addr).add j) = some u := by
  subst hb
  exact four_cells w T c0 c1 c2 c3
theorem kindOf_any (w : World) (t : Int) : Calls Tryz.prog 178 #[.int .i64 t] w fun e w' => e = .returned (.string (bs (kindT t))) ∧ w' = w := by
  go_enter Tryz.func178, Tryz.ntmps178
  go_wp2
  all_goals go_ret
  all_goals refine ⟨?_, rfl⟩
  all_goals simp_all [kindT, bs]
theorem isInParts_any (w : World) (t : Int) : Calls Tryz.prog 260 #[.int .i64 t] w fun e w' => e = .returned (.bool (isWord t)) ∧ w' = w := by
  go_enter Tryz.func260, Tryz.ntmps260
  go_wp2
  all_goals go_ret
  all_goals refine ⟨?_, rfl⟩
  all_goals first | (simp_all [isWord]; done) | rfl
theorem isKept_any (w : World) (t : Int) : Calls Tryz.prog 155 #[.int .i64 t] w fun e w' => e = .returned (.bool (isKept t)) ∧ w' = w := by
  go_enter Tryz.func155, Tryz.ntmps155
  go_wp2_with (go_at_call 178; refine (kindOf_any _ _).mono ?_; rintro e w1 ⟨rfl, rfl⟩)
  all_goals go_ret
  all_goals refine ⟨?_, rfl⟩
  all_goals simp_all [isKept, bs_toList]
  all_goals cases kindT t <;> rfl
/-- What lies in F, and what was laid since. -/
def Nw (F : Nat → Prop) (w w' : World) (j : Nat) : Prop := F j ∨ (w.heap.size ≤ j ∧ j < w'.heap.size)
theorem up_append4 {w wr w2 : World} {e : TypeId} {k : Nat} {v : Value} {n : Nat} {xs : List Value} (hU : Below w.heap.size w wr) (hown : wr.ownsRow w.heap.size e k v n xs) (hg : wr.grownBy w2 v.ownBlock) : Below w.heap.size w w2 :=
  Below.grown hU hg hU.size (fun j hj => (hown.lt j hj).1)
/-- Cells that were copied. -/
def CpE (w : World) (F : Nat → Prop) (n : Nat) (c : List Value) (x : El (n + 1)) (b : List Nat) : Prop := b = [] ∧ ∃ iv, c = [.int .i64 x.1, .string (bs x.2.1), .string (bs x.2.2.1), iv] ∧ RdI w F n iv x.2.2.2
theorem ownsRow_low {w : World} {base : Nat} {e : TypeId} {k : Nat} {v : Value} {n : Nat} {xs : List Value} (h : w.ownsRow base e k v n xs) : w.ownsRow 0 e k v n xs := by
  obtain ⟨q1, q2⟩ := h
  rcases q2 with ⟨rfl, q2⟩ | ⟨g, cap, cur, rfl, q2, q3⟩
  · exact ⟨q1, Or.inl ⟨rfl, q2⟩⟩
  · exact ⟨q1, Or.inr ⟨g, cap, cur, rfl, Nat.zero_le _, q3⟩⟩
theorem rd_cp {w w' : World} {F F' : Nat → Prop} {n : Nat} {v : Value} {l : List (El (n + 1))} {b : List Nat} (hr : Row w' 73 4 (CpE w F n) v l b) (hu : Below w.heap.size w w')
    (hF : ∀ j, F j → F' j) (hv : ∀ j ∈ b, F' j) : Rd w' F' (n + 1) v l := by
  refine Row.read hr F' hv _ (fun a c x b _ _ => ?_)
  rintro ⟨_, iv, rfl, h1⟩ _ _ hc
  have c0 := hc 0 _ rfl
  rw [Addr.add_zero'] at c0
  exact ⟨c0, hc 1 _ rfl, hc 2 _ rfl, iv, hc 3 _ rfl, h1.keep hF (fun j _ hj => hu.block j hj)⟩
theorem CpE.back {w w' : World} {F : Nat → Prop} {n : Nat} {c : List Value} {x : El (n + 1)} {b : List Nat} (h : CpE w' F n c x b) (hF : ∀ j, F j → j < w.heap.size) (hu : Below w.heap.size w w') : CpE w F n c x b := by
  obtain ⟨h1, iv, h2, h3⟩ := h
  exact ⟨h1, iv, h2, h3.keep (fun _ h => h) (fun j hj _ => (hu.block j (hF j hj)).symm)⟩
def wordsL {n : Nat} (l : List (El (n + 1))) : List (El (n + 1)) := l.filter (fun x => isWord x.1)
theorem wordsL_take {n : Nat} {l : List (El (n + 1))} {k : Nat} (h : k < l.length) : wordsL (l.take (k + 1)) = if isWord l[k].1 = true then wordsL (l.take k) ++ [l[k]] else wordsL (l.take k) := by
  unfold wordsL
  rw [List.take_succ_eq_append_getElem h, List.filter_append]
  by_cases h1 : isWord l[k].1 = true
  · rw [if_pos h1, List.filter_cons_of_pos (p := fun x : El (n + 1) => isWord x.1) h1, List.filter_nil]
  · rw [if_neg h1, List.filter_cons_of_neg (p := fun x : El (n + 1) => isWord x.1) h1, List.filter_nil, List.append_nil]
theorem info_element : (Tryz.prog.info? 73).map (fun i => (i.zero, i.size, i.bytes)) = some (some zeroE, 4, 64) := by kernel_rfl
theorem own_new {w w' : World} {e : TypeId} {k : Nat} {v : Value} {n : Nat} {xs : List Value} (h : w'.ownsRow w.heap.size e k v n xs) : New w w' v.ownBlock.toList := by
  refine ⟨?_, fun j hj => ⟨(h.lt j (by simpa using hj)).1, ownsRow_lt h j hj⟩⟩
  cases v.ownBlock <;> simp
theorem Row.slice {α : Type} {w : World} {T : TypeId} {k : Nat} {R : List Value → α → List Nat → Prop} {v : Value} {l : List α} {bl : List Nat} (h : Row w T k R v l bl) : ∃ ad cap, v = .slice ad l.length cap := by
  obtain ⟨xs, cs, ⟨_, h1⟩, _⟩ := h
  rcases h1 with ⟨rfl, h1⟩ | ⟨g, cap, cur, rfl, _⟩
  · exact ⟨_, _, by rw [h1]⟩
  · exact ⟨_, _, rfl⟩
set_option maxRecDepth 20000 in
theorem wordsOf_any (n : Nat) (F : Nat → Prop) (w : World) (v : Value) (l : List (El (n + 1))) (h : Rd w F (n + 1) v l) (hl : l.length ≤ 24) :
    Calls Tryz.prog 216 #[v] w fun e w' => ∃ v', e = .returned v' ∧ Below w.heap.size w w' ∧ Row w' 73 4 (CpE w F n) v' (wordsL l) v'.ownBlock.toList ∧ New w w' v'.ownBlock.toList := by
  obtain ⟨ad, cap, rfl⟩ := h.slice
  obtain ⟨i0, hi0, hz0, hz1, hz2⟩ := info_parts info_element
  have HI := hid hi0
  clear hi0
  go_enter Tryz.func216, Tryz.ntmps216
  go_wp2_with fail
  go_loopw [3, 8] (fun v i wr => ∃ (k : Nat) (xs : List Value), k ≤ l.length ∧ i = .int .i64 k ∧ Hid (wr.ownsRow w.heap.size 73 4 v (wordsL (l.take k)).length xs) ∧ Hid (Ls 4 (CpE w F n) xs (wordsL (l.take k)) []) ∧ Hid (Below w.heap.size w wr)) (fun _ i _ => l.length - (intOf i).toNat)
  case atStart => exact ⟨0, [], Nat.zero_le _, rfl, World.ownsRow_nil _ _ _ _, ⟨rfl, rfl⟩, Below.refl _ _⟩
  case round =>
    obtain ⟨k, xs, hk, rfl, hown, hls, hU⟩ := hrel
    by_cases hkl : k < l.length
    · have hat := hid (h.at (List.getElem?_eq_getElem hkl))
      obtain ⟨a, ad2, cap2, rfl, _, d0, d1, d2, d3, hrd⟩ := hat.out
      have c0 := hU.out.cell (World.block_lt_of_cell? _ _ d0) |>.trans d0
      have c1 := hU.out.cell (World.block_lt_of_cell? _ _ d1) |>.trans d1
      have c2 := hU.out.cell (World.block_lt_of_cell? _ _ d2) |>.trans d2
      have c3 := hU.out.cell (World.block_lt_of_cell? _ _ d3) |>.trans d3
      have hrd2 := hid hrd
      have hst := hid (wordsL_take hkl)
      have hlen := hid (show (wordsL (l.take k)).length ≤ 24 from Nat.le_trans (List.length_filter_le _ _) (by rw [List.length_take]; omega))
      clear hrd hat d0 d1 d2 d3
      generalize l[k] = x at c0 c1 c2 c3 hrd2 hst
      generalize wordsL (l.take k) = done at hown hls hst hlen
      have hX := (Four.new wr (.int .i64 x.1) (.string (bs x.2.1)) (.string (bs x.2.2.1)) (.slice ad2 x.2.2.2.length cap2)).cells
      obtain ⟨⟨x0, x1, x2, x3⟩, _⟩ := hX
      have U1 := hid (Below.alloc hU.out hU.out.size (.cells #[.int .i64 x.1, .string (bs x.2.1), .string (bs x.2.2.1), .slice ad2 x.2.2.2.length cap2] 73))
      have O1 := hid (hown.out.alloc (.cells #[.int .i64 x.1, .string (bs x.2.1), .string (bs x.2.2.1), .slice ad2 x.2.2.2.length cap2] 73))
      go_wp2_with fail
      go_at_call 260
      refine (isInParts_any _ x.1).mono ?_
      rintro e w1 ⟨rfl, rfl⟩
      by_cases hw : isWord x.1 = true
      · have hst2 := hid (hst.out.trans (if_pos hw))
        rw [hw]
        clear hst hw
        go_wp2_with (at_builtin; refine wpList_append_own _ rfl _ _ 59 rfl w.heap.size 73 i0 zeroE 4 64 Tryz.underlying59 HI.out hz0 hz1 hz2 rfl (by decide) _ _ _ rfl (O1.out.alloc _) ⟨wr.heap.size + 1, 0, none⟩ 1 1 [.int .i64 x.1, .string (bs x.2.1), .string (bs x.2.2.1), .slice ad2 x.2.2.2.length cap2] rfl rfl (four_at _ _ _ _ _ _ _ (by simp)) four_one (by have := hlen.out; unfold maxLen; omega) (by have := hlen.out; omega) (by have := U1.out.size; simp only [World.size_alloc] at this ⊢; omega) ?_)
        intro v' w3 hown' hg hne
        have U3 := hid (up_grow U1.out O1.out _ hg)
        have O3 := hid hown'
        clear hown' hg
        go_wp2
        go_roundw
        case rel =>
          refine ⟨k + 1, xs ++ [.int .i64 x.1, .string (bs x.2.1), .string (bs x.2.2.1), .slice ad2 x.2.2.2.length cap2], by omega, by go_num, ?_, ?_, U3⟩
          · unfold Hid
            rw [hst2.out, List.length_append]
            exact O3.out
          · unfold Hid
            rw [hst2.out]
            exact Ls.snoc (k := 4) (R := CpE w F n) (c := [.int .i64 x.1, .string (bs x.2.1), .string (bs x.2.2.1), .slice ad2 x.2.2.2.length cap2]) (b := []) rfl ⟨rfl, _, rfl, hrd2.out⟩ hls.out
        case measure => simp [intOf]; omega
      · have hst2 := hid (hst.out.trans (if_neg hw))
        have hw2 : isWord x.1 = false := by simpa using hw
        rw [hw2]
        clear hst hw hw2
        go_wp2
        go_roundw
        case rel =>
          refine ⟨k + 1, xs, by omega, by go_num, ?_, ?_, U1⟩
          · unfold Hid
            rw [hst2.out]
            exact O1.out
          · unfold Hid
            rw [hst2.out]
            exact hls.out
        case measure => simp [intOf]; omega
    · have hall : wordsL (l.take k) = wordsL l := by rw [List.take_of_length_le (by omega)]
      have O := hid hown.out
      have L := hid hls.out
      rw [hall] at O L
      clear hown hls hall
      go_wp2
      go_ret
      exact ⟨_, rfl, hU.out, ⟨xs, [], ownsRow_low O.out, L.out, by simp⟩, own_new O.out⟩
/-- Items whose elements were copied. -/
def CpI (w0 : World) (F : Nat → Prop) (n : Nat) (w : World) (c : List Value) (s : List (El (n + 1))) (b : List Nat) : Prop := ∃ sv, c = [sv] ∧ Row w 73 4 (CpE w0 F n) sv s b
theorem CpI.keep {w0 : World} {F : Nat → Prop} {n : Nat} (w w' : World) (c : List Value) (s : List (El (n + 1))) (b : List Nat) (h : CpI w0 F n w c s b) (k : ∀ j ∈ b, w'.heap[j]? = w.heap[j]?) : CpI w0 F n w' c s b := by
  obtain ⟨sv, h1, h2⟩ := h
  exact ⟨sv, h1, h2.keep k (fun _ _ _ _ _ h => h)⟩
theorem rdI_cp {w w' : World} {F F' : Nat → Prop} {n : Nat} {v : Value} {l : Its (n + 1)} {b : List Nat} (hr : Row w' 182 1 (CpI w F n w') v l b) (hu : Below w.heap.size w w')
    (hF : ∀ j, F j → F' j) (hv : ∀ j ∈ b, F' j) : RdI w' F' (n + 1) v l := by
  refine Row.read hr F' hv _ (fun a c x b _ _ => ?_)
  rintro ⟨sv, rfl, h1⟩ _ hb hc
  have c0 := hc 0 _ rfl
  rw [Addr.add_zero'] at c0
  exact ⟨sv, c0, rd_cp h1 hu hF (fun j hj => hv j (hb j hj))⟩
theorem info_item : (Tryz.prog.info? 182).map (fun i => (i.zero, i.size, i.bytes)) = some (some (.agg #[.slice none 0 0]), 1, 24) := by kernel_rfl
set_option maxRecDepth 20000 in
theorem aparts_any (n : Nat) (F : Nat → Prop) (w : World) (v : Value) (its : Its (n + 1)) (h : RdI w F (n + 1) v its) (hF : ∀ j, F j → j < w.heap.size) (hl : its.length ≤ 8) (hs : ∀ s ∈ its, s.length ≤ 24) :
    Calls Tryz.prog 156 #[v] w fun e w' => ∃ v' bl, e = .returned v' ∧ Below w.heap.size w w' ∧ Row w' 182 1 (CpI w F n w') v' (its.map wordsL) bl ∧ New w w' bl := by
  obtain ⟨ad, cap, rfl⟩ := h.slice
  obtain ⟨i0, hi0, hz0, hz1, hz2⟩ := info_parts info_item
  have HI := hid hi0
  have H := hid h
  have HF := hid hF
  have HS := hid hs
  clear hi0 h hF hs
  go_enter Tryz.func156, Tryz.ntmps156
  go_wp2_with fail
  go_loopw [3, 8] (fun o i wr => ∃ (k : Nat) (xs : List Value) (cs : List Nat), k ≤ its.length ∧ i = .int .i64 k ∧ Hid (wr.ownsRow 0 182 1 o ((its.take k).map wordsL).length xs) ∧ Hid (Ls 1 (CpI w F n wr) xs ((its.take k).map wordsL) cs) ∧ Hid (New w wr (o.ownBlock.toList ++ cs)) ∧ Hid (Below w.heap.size w wr)) (fun _ i _ => its.length - (intOf i).toNat)
  case atStart => exact ⟨0, [], [], Nat.zero_le _, rfl, World.ownsRow_nil _ _ _ _, ⟨rfl, rfl⟩, New.nil _ _, Below.refl _ _⟩
  case round =>
    obtain ⟨k, xs, cs, hk, rfl, hown, hls, hnew, hU⟩ := hrel
    by_cases hkl : k < its.length
    · have hat := hid ((H.out.up hU.out).at (List.getElem?_eq_getElem hkl))
      obtain ⟨a, ad2, cap2, rfl, _, c0, hrd⟩ := hat.out
      have hsl := HS.out _ (List.getElem_mem hkl)
      have hst := hid (show (its.take (k + 1)).map wordsL = (its.take k).map wordsL ++ [wordsL its[k]] by rw [List.take_succ_eq_append_getElem hkl, List.map_append]; rfl)
      have hrd2 := hid hrd
      have hlen := hid (show ((its.take k).map wordsL).length ≤ 8 by rw [List.length_map, List.length_take]; omega)
      clear hrd hat
      generalize its[k] = s at c0 hrd2 hst hsl
      generalize (its.take k).map wordsL = done at hown hls hst hlen
      go_wp2_with fail
      go_at_call 216
      have u0 : Below wr.heap.size wr (wr.alloc (.cells #[.slice ad2 s.length cap2] 182)) := Below.alloc (Below.refl _ _) (Nat.le_refl _) _
      refine (wordsOf_any n F _ _ s (hrd2.out.up u0) hsl).mono ?_
      rintro e w2 ⟨v2, rfl, u2, r2, n2⟩
      have u02 := u0.trans (u2.mono u0.size)
      have hold : ∀ j ∈ (Value.ownBlock _).toList ++ cs, w2.heap[j]? = wr.heap[j]? := fun j hj => u02.block j (hnew.out.2 j hj).2
      have hown2 := hid (ownsRow_keep hown.out (w' := w2) (fun j hj => hold j (List.mem_append_left _ hj)))
      have hls2 := hid (hls.out.mono (R' := CpI w F n w2) (fun c y b' hb' _ hr => hr.keep _ _ _ _ _ (fun j hj => hold j (List.mem_append_right _ (hb' j hj)))))
      have U2 := hid (hU.out.trans (u02.mono hU.out.size))
      have hx2 := hid (show CpI w F n w2 [v2] (wordsL s) v2.ownBlock.toList from ⟨v2, rfl, r2.keep (fun _ _ => rfl) (fun _ _ _ _ _ h => h.back HF.out (hU.out.trans (u0.mono hU.out.size)))⟩)
      have hnew2 := hid (New.add hnew.out (n2.from u0.size) hU.out.size u02.size)
      obtain ⟨ad3, cap3, rfl⟩ := r2.slice
      clear u0 u2 u02 hold r2 n2 hown hls hnew
      go_wp2_with (at_builtin; refine wpList_append_sep _ rfl _ _ 71 rfl 182 i0 _ 1 24 Tryz.underlying71 HI.out hz0 hz1 hz2 rfl (by decide) _ _ _ rfl (hown2.out.alloc _) ⟨w2.heap.size, 0, none⟩ 1 1 [.slice ad3 (wordsL s).length cap3] rfl rfl (one_at _ _ _) (by simp [Value.oneCell']) (by have := hlen.out; unfold maxLen; omega) (by have := hlen.out; omega) ?_)
      intro v' w3 hown' hg hv
      have R := hid (Row.push (R := CpI w F n) CpI.keep hls2.out rfl hx2.out U2.out.size hnew2.out hown' hg hv)
      have U4 := hid ((UpB.of_below (b := w.heap.size) (Below.alloc U2.out U2.out.size (.cells #[.slice ad3 (wordsL s).length cap3] 182))).grown hg (fun k hk => Or.inr ((hnew2.out.2 k (List.mem_append_left _ (List.mem_append_left _ (by rw [hk]; simp)))).1)) |>.below (Nat.le_refl _) (Nat.le_refl _))
      clear hown' hg hv
      go_wp2
      go_roundw
      case rel =>
        refine ⟨k + 1, xs ++ [.slice ad3 (wordsL s).length cap3], _, by omega, by go_num, ?_, ?_, R.out.2.2, U4⟩
        · unfold Hid
          rw [hst.out]
          exact R.out.2.1
        · unfold Hid
          rw [hst.out]
          exact R.out.1
      case measure => simp [intOf]; omega
    · have hall : (its.take k).map wordsL = its.map wordsL := by rw [List.take_of_length_le (by omega)]
      have O := hid hown.out
      have L := hid hls.out
      rw [hall] at O L
      clear hown hls hall
      go_wp2
      go_ret
      exact ⟨_, _, rfl, hU.out, ⟨xs, cs, O.out, L.out, rfl⟩, hnew.out⟩
end Go.Proofs.YtaokifbpakbgdaaGreatDoor

/- Package archive: what is demanded of the elements: demandsInParts, demands. -/
namespace Go.Proofs.YtaokifbpakbgdaaGreatDoor
open Go.RowKit

/-- A demand: the kind, the value, the kind that is asked. -/
abbrev Dm := By × By × By
def dmY {n : Nat} (y : El (n + 1)) : Dm := (y.2.1, y.2.2.1, LO)
def dmI {n : Nat} (its : Its (n + 1)) : List Dm := (its.map (fun s => (wordsL s).map dmY)).flatten
def dmE {n : Nat} (x : El (n + 2)) : List Dm := (if kindT x.1 = [] then [] else [(x.2.1, x.2.2.1, kindT x.1)]) ++ (if x.1 = 533016 then dmI x.2.2.2 else [])
def dms {n : Nat} (l : List (El (n + 2))) : List Dm := (l.map dmE).flatten
/-- The five cells of a demand. -/
def CpD (c : List Value) (d : Dm) (b : List Nat) : Prop := b = [] ∧ ∃ t ad len cap, c = [.int .i64 t, .string (bs d.1), .string (bs d.2.1), .slice ad len cap, .string (bs d.2.2)]
theorem info_demand : (Tryz.prog.info? 187).map (fun i => (i.zero, i.size, i.bytes)) = some (some (.agg #[.int .i64 0, .string ⟨#[]⟩, .string ⟨#[]⟩, .slice none 0 0, .string ⟨#[]⟩]), 5, 80) := by kernel_rfl
theorem five_cells (w : World) (T : TypeId) (c0 c1 c2 c3 c4 : Value) (b : Nat) (hb : b = w.heap.size) : ∀ j u, [c0, c1, c2, c3, c4][j]? = some u → (w.alloc (.cells #[c0, c1, c2, c3, c4] T)).cell? ((⟨b, 0, none⟩ : Addr).add j) = some u := by
  subst hb
  intro j u hj
  rw [Addr.add_lit]
  match j, hj with
  | 0, hj | 1, hj | 2, hj | 3, hj | 4, hj => simp at hj; subst hj; simp
  | j + 5, hj => simp at hj
theorem five_one {t : Int} {k u s : ByteArray} {a : Option Addr} {l c : Nat} : ∀ v ∈ [Value.int .i64 t, .string k, .string u, .slice a l c, .string s], v.oneCell' = true := by
  intro v hv
  simp at hv
  rcases hv with rfl | rfl | rfl | rfl | rfl <;> rfl
/-- The row o, from the row o2 on: what lay there and was not that row is as it was. -/
def Apart (w2 : World) (o2 : Value) (w : World) (o : Value) : Prop := w2.heap.size ≤ w.heap.size ∧ (∀ j, j < w2.heap.size → j ∉ o2.ownBlock.toList → w.heap[j]? = w2.heap[j]?) ∧ (o.ownBlock = o2.ownBlock ∨ ∀ g ∈ o.ownBlock.toList, w2.heap.size ≤ g)
theorem Apart.refl (w : World) (o : Value) : Apart w o w o := ⟨Nat.le_refl _, fun _ _ _ => rfl, Or.inl rfl⟩
theorem Apart.below {w2 w w' : World} {o2 o : Value} (h : Apart w2 o2 w o) (k : Below w.heap.size w w') : Apart w2 o2 w' o :=
  ⟨Nat.le_trans h.1 k.size, fun j hj hn => (k.block j (Nat.lt_of_lt_of_le hj h.1)).trans (h.2.1 j hj hn), h.2.2⟩
theorem Apart.grown {w2 w w' : World} {o2 o o' : Value} (h : Apart w2 o2 w o) (hg : w.grownBy w' o.ownBlock) (hm : Moved w o o') : Apart w2 o2 w' o' := by
  refine ⟨Nat.le_trans h.1 hg.size, fun j hj hn => ?_, ?_⟩
  · refine (hg.block j (Nat.lt_of_lt_of_le hj h.1) (fun e => ?_)).trans (h.2.1 j hj hn)
    rcases h.2.2 with h3 | h3
    · rw [h3] at e; exact hn (by rw [← e]; simp)
    · have := h3 j (by rw [← e]; simp); omega
  · rcases hm with hm | hm
    · rw [hm]; exact h.2.2
    · exact Or.inr (fun g hg' => Nat.le_trans h.1 (hm g hg'))
theorem ownsRow_from {w : World} {base : Nat} {e : TypeId} {k : Nat} {v : Value} {n : Nat} {xs : List Value} (h : w.ownsRow 0 e k v n xs) (hb : ∀ j ∈ v.ownBlock.toList, base ≤ j) : w.ownsRow base e k v n xs := by
  obtain ⟨q1, q2⟩ := h
  rcases q2 with ⟨rfl, q2⟩ | ⟨g, cap, cur, rfl, q2, q3⟩
  · exact ⟨q1, Or.inl ⟨rfl, q2⟩⟩
  · exact ⟨q1, Or.inr ⟨g, cap, cur, rfl, hb g (by simp [Value.ownBlock]), q3⟩⟩
theorem dmI_take {n : Nat} {its : Its (n + 1)} {k : Nat} (h : k < its.length) : dmI (its.take (k + 1)) = dmI (its.take k) ++ (wordsL its[k]).map dmY := by
  unfold dmI
  rw [List.take_succ_eq_append_getElem h, List.map_append, List.flatten_append]
  simp
theorem dmI_len {n : Nat} : ∀ (its : Its (n + 1)), (∀ s ∈ its, s.length ≤ 24) → (dmI its).length ≤ 24 * its.length
  | [], _ => by simp [dmI]
  | s :: l, h => by
    have h1 : (wordsL s).length ≤ s.length := List.length_filter_le _ _
    have h2 := h s List.mem_cons_self
    have h3 := dmI_len l (fun t ht => h t (List.mem_cons_of_mem _ ht))
    unfold dmI at h3 ⊢
    rw [List.map_cons, List.flatten_cons, List.length_append, List.length_map, List.length_cons]
    omega
set_option maxRecDepth 20000 in
set_option maxHeartbeats 2000000 in
theorem demandsInParts_any (n : Nat) (F : Nat → Prop) (w : World) (v : Value) (its : Its (n + 1)) (h : RdI w F (n + 1) v its) (hF : ∀ j, F j → j < w.heap.size) (hl : its.length ≤ 8) (hs : ∀ s ∈ its, s.length ≤ 24) :
    Calls Tryz.prog 214 #[v] w fun e w' => ∃ v' xs, e = .returned v' ∧ Below w.heap.size w w' ∧ w'.ownsRow w.heap.size 187 5 v' (dmI its).length xs ∧ Ls 5 CpD xs (dmI its) [] := by
  obtain ⟨ad, cap, rfl⟩ := h.slice
  obtain ⟨i0, hi0, hz0, hz1, hz2⟩ := info_parts info_demand
  have HI := hid hi0
  have H := hid h
  have HF := hid hF
  have HS := hid hs
  clear hi0 h hF hs
  go_enter Tryz.func214, Tryz.ntmps214
  go_wp2_with fail
  go_loopw [3, 10] (fun o i wr => ∃ (k : Nat) (xs : List Value), k ≤ its.length ∧ i = .int .i64 k ∧ Hid (wr.ownsRow w.heap.size 187 5 o (dmI (its.take k)).length xs) ∧ Hid (Ls 5 CpD xs (dmI (its.take k)) []) ∧ Hid (Below w.heap.size w wr)) (fun _ i _ => its.length - (intOf i).toNat)
  case atStart => exact ⟨0, [], Nat.zero_le _, rfl, World.ownsRow_nil _ _ _ _, ⟨rfl, rfl⟩, Below.refl _ _⟩
  case round =>
    obtain ⟨k, xs, hk, rfl, hown, hls, hU⟩ := hrel
    by_cases hkl : k < its.length
    · have hat := hid ((H.out.up hU.out).at (List.getElem?_eq_getElem hkl))
      obtain ⟨a, ad2, cap2, rfl, _, c0, hrd⟩ := hat.out
      have hsl := HS.out _ (List.getElem_mem hkl)
      have hst := hid (dmI_take hkl)
      have hrd2 := hid hrd
      have hlen := hid (show (dmI (its.take k)).length ≤ 192 from Nat.le_trans (dmI_len _ (fun s hs => HS.out s (List.mem_of_mem_take hs))) (by rw [List.length_take]; omega))
      clear hrd hat
      generalize its[k] = s at c0 hrd2 hst hsl
      generalize dmI (its.take k) = done at hown hls hst hlen
      have u0 : Below wr.heap.size wr (wr.alloc (.cells #[.slice ad2 s.length cap2] 182)) := Below.alloc (Below.refl _ _) (Nat.le_refl _) _
      go_wp2_with fail
      go_at_call 216
      refine (wordsOf_any n F _ _ s (hrd2.out.up u0) hsl).mono ?_
      rintro e w2 ⟨v2, rfl, u2, r2, n2⟩
      obtain ⟨ad3, cap3, rfl⟩ := r2.slice
      have u02 := u0.trans (u2.mono u0.size)
      have U2 := hid (hU.out.trans (u02.mono hU.out.size))
      have O2 := hid (ownsRow_keep hown.out (w' := w2) (fun j hj => u02.block j (ownsRow_lt hown.out j hj)))
      have hO := hid (fun j (hj : j ∈ (Value.ownBlock u3).toList) => (hown.out.lt j (by simpa using hj)).1)
      have hO2 := hid (fun j (hj : j ∈ (Value.ownBlock u3).toList) => ownsRow_lt hown.out j hj)
      have hb0 := hid (fun j (hj : j ∈ (Value.slice ad3 (wordsL s).length cap3).ownBlock.toList) => (n2.2 j hj).1)
      have hRW := hid (rd_cp (F' := fun j => F j ∨ j ∈ (Value.slice ad3 (wordsL s).length cap3).ownBlock.toList) r2 u2 (fun j hj => Or.inl hj) (fun j hj => Or.inr hj))
      have hwl : (wordsL s).length ≤ 24 := Nat.le_trans (List.length_filter_le _ _) hsl
      have hno : Hid (∀ j, (F j ∨ j ∈ (Value.slice ad3 (wordsL s).length cap3).ownBlock.toList) → j ∉ (Value.ownBlock u3).toList) := fun j hj hn => by
        rcases hj with hj | hj
        · have := HF.out j hj
          have := hO.out j hn
          omega
        · have h1 := hb0.out j hj
          have := hO2.out j hn
          simp at h1
          omega
      have L2 := hls
      clear u0 u2 u02 r2 n2 hown hls c0 hrd2 hO2 hb0
      generalize wordsL s = ws at hst hRW hwl hno
      go_wp2_with fail
      go_loopw [3, 18] (fun o i wq => ∃ (q : Nat) (ys : List Value), q ≤ ws.length ∧ i = .int .i64 q ∧ Hid (wq.ownsRow 0 187 5 o (done ++ (ws.take q).map dmY).length ys) ∧ Hid (Ls 5 CpD ys (done ++ (ws.take q).map dmY) []) ∧ Hid (∀ j ∈ o.ownBlock.toList, w.heap.size ≤ j) ∧ Hid (Apart w2 u3 wq o) ∧ Hid (Below w.heap.size w wq)) (fun _ i _ => ws.length - (intOf i).toNat)
      case atStart =>
        refine ⟨0, xs, Nat.zero_le _, rfl, ?_, ?_, hO, Apart.refl _ _, U2⟩
        · unfold Hid
          rw [List.take_zero, List.map_nil, List.append_nil]
          exact ownsRow_low O2.out
        · unfold Hid
          rw [List.take_zero, List.map_nil, List.append_nil]
          exact L2.out
      case round =>
        obtain ⟨q, ys, hq, rfl, hown, hls, hOq, hA, hV⟩ := hrel
        by_cases hql : q < ws.length
        · have hat := hid ((hRW.out.keep (w' := wr) (fun _ h => h) (fun j hj hlt => hA.out.2.1 j hlt (hno.out j hj))).at (List.getElem?_eq_getElem hql))
          obtain ⟨a4, ad4, cap4, e4, _, g0, g1, g2, g3, _⟩ := hat.out
          subst e4
          have hsq := hid (show done ++ (ws.take (q + 1)).map dmY = (done ++ (ws.take q).map dmY) ++ [dmY ws[q]] by rw [List.take_succ_eq_append_getElem hql, List.map_append, List.append_assoc]; rfl)
          have hlq := hid (show (done ++ (ws.take q).map dmY).length ≤ 216 by rw [List.length_append, List.length_map, List.length_take]; have := hlen.out; omega)
          clear hat
          generalize ws[q] = y at g0 g1 g2 g3 hsq
          generalize done ++ (ws.take q).map dmY = dq at hown hls hsq hlq
          have hXc := (Four.new wr (.int .i64 y.1) (.string (bs y.2.1)) (.string (bs y.2.2.1)) (.slice ad4 y.2.2.2.length cap4)).cells
          obtain ⟨⟨x0, x1, x2, x3⟩, _⟩ := hXc
          have V1 := hid (Below.alloc hV.out hV.out.size (.cells #[.int .i64 y.1, .string (bs y.2.1), .string (bs y.2.2.1), .slice ad4 y.2.2.2.length cap4] 73))
          have O1 := hid (hown.out.alloc (.cells #[.int .i64 y.1, .string (bs y.2.1), .string (bs y.2.2.1), .slice ad4 y.2.2.2.length cap4] 73))
          have A1 := hid ((hA.out.below (Below.alloc (Below.refl _ wr) (Nat.le_refl _) (.cells #[.int .i64 y.1, .string (bs y.2.1), .string (bs y.2.2.1), .slice ad4 y.2.2.2.length cap4] 73))).below (Below.alloc (Below.refl _ _) (Nat.le_refl _) (.cells #[.int .i64 y.1, .string (bs y.2.1), .string (bs y.2.2.1), .slice ad4 y.2.2.2.length cap4, .string ⟨#[76, 79]⟩] 187)))
          go_wp2_with (at_builtin; refine wpList_append_sep _ rfl _ _ 183 rfl 187 i0 _ 5 80 Tryz.underlying183 HI.out hz0 hz1 hz2 rfl (by decide) _ _ _ rfl (O1.out.alloc _) ⟨wr.heap.size + 1, 0, none⟩ 1 1 [.int .i64 y.1, .string (bs y.2.1), .string (bs y.2.2.1), .slice ad4 y.2.2.2.length cap4, .string ⟨#[76, 79]⟩] rfl rfl (five_cells _ _ _ _ _ _ _ _ (by simp)) five_one (by have := hlq.out; unfold maxLen; omega) (by have := hlq.out; omega) ?_)
          intro v' w3 hown' hg hv
          have A3 := hid (A1.out.grown hg hv)
          have O3 := hid hown'
          have B3 : Hid (∀ j ∈ v'.ownBlock.toList, w.heap.size ≤ j) := fun j hj => by
            rcases hv with hv | hv
            · exact hOq.out j (by rw [← hv]; exact hj)
            · have h1 := hv j hj
              have h2 := V1.out.size
              simp only [World.size_alloc] at h1 h2
              omega
          have V3 := hid (Below.grown (Below.alloc V1.out V1.out.size _) hg (Nat.le_trans V1.out.size (by simp)) (fun k hk => hOq.out k (by rw [hk]; simp)))
          clear hown' hg hv
          go_wp2
          go_roundw
          case rel =>
            refine ⟨q + 1, ys ++ [.int .i64 y.1, .string (bs y.2.1), .string (bs y.2.2.1), .slice ad4 y.2.2.2.length cap4, .string ⟨#[76, 79]⟩], by omega, by go_num, ?_, ?_, B3, A3, V3⟩
            · unfold Hid
              rw [hsq.out, List.length_append]
              exact O3.out
            · unfold Hid
              rw [hsq.out]
              exact Ls.snoc (k := 5) (R := CpD) (c := [.int .i64 y.1, .string (bs y.2.1), .string (bs y.2.2.1), .slice ad4 y.2.2.2.length cap4, .string ⟨#[76, 79]⟩]) (b := []) rfl ⟨rfl, _, _, _, _, rfl⟩ hls.out
          case measure => simp [intOf]; omega
        · have hall : done ++ (ws.take q).map dmY = dmI (its.take (k + 1)) := by rw [hst.out, List.take_of_length_le (by omega)]
          have O := hid hown.out
          have L := hid hls.out
          rw [hall] at O L
          clear hown hls hall
          go_wp2
          go_roundw
          case rel => exact ⟨k + 1, ys, by omega, by go_num, ownsRow_from O.out hOq.out, L, hV⟩
          case measure => simp [intOf]; omega
    · have hall : dmI (its.take k) = dmI its := by rw [List.take_of_length_le (by omega)]
      have O := hid hown.out
      have L := hid hls.out
      rw [hall] at O L
      clear hown hls hall
      go_wp2
      go_ret
      exact ⟨_, xs, rfl, hU.out, O.out, L.out⟩
theorem cpd_one : ∀ {xs : List Value} {l : List Dm} {b : List Nat}, Ls 5 CpD xs l b → ∀ u ∈ xs, u.oneCell' = true
  | xs, [], b, h, u, hu => by obtain ⟨rfl, _⟩ := h; cases hu
  | xs, d :: l, b, h, u, hu => by
    obtain ⟨c, ys, b', cs, rfl, _, ⟨_, t, ad, len, cap, rfl⟩, h2, _⟩ := h
    rcases List.mem_append.1 hu with hu | hu
    · exact five_one u hu
    · exact cpd_one h2 u hu
theorem Ls.app {α : Type} {k : Nat} {R : List Value → α → List Nat → Prop} {ys : List Value} {m : List α} {cs : List Nat} (h2 : Ls k R ys m cs) : ∀ {l : List α} {xs : List Value} {b : List Nat}, Ls k R xs l b → Ls k R (xs ++ ys) (l ++ m) (b ++ cs)
  | [], xs, b, h => by
    obtain ⟨rfl, rfl⟩ := h
    simpa using h2
  | x :: l, xs, b, h => by
    obtain ⟨c, zs, b', ds, rfl, e2, h1, h3, rfl⟩ := h
    exact ⟨c, zs ++ ys, b', ds ++ cs, by simp, e2, h1, Ls.app h2 h3, by simp⟩
/-- 'append' of all of a row of one's own. -/
theorem wpList_append_row {P : Program} (w : World) {ops : Array Oper} {rest : List Oper} {o : Oper} {a : Act} {Q : Exit → Act → World → Prop}
    (hg : o.guard = none) (s x : Operand) (t : TypeId) (hop : o.op = Op.call { callee := Callee.builtin Builtin.append, args := #[s, x], argTypes := #[t, t] })
    (base : Nat) (e : TypeId) (i : TypeInfo) (z : Value) (size bytes : Nat) (h1 : P.underlying t = some (.slice e)) (h2 : P.info? e = some i) (h3 : i.zero = some z) (h4 : i.size = size) (h5 : i.bytes = bytes) (h6 : z.cells.size = size) (h7 : 0 < size)
    (v : Value) (n : Nat) (xs : List Value) (hs : a.eval s = v) (hown : w.ownsRow base e size v n xs)
    (v2 : Value) (m b2 : Nat) (ys : List Value) (hx : a.eval x = v2) (hown2 : w.ownsRow b2 e size v2 m ys) (h1c : ∀ u ∈ ys, u.oneCell' = true)
    (k1 : n + m ≤ maxLen) (k2 : (n + m) * bytes ≤ 140737488355328) (hbase : base ≤ w.heap.size)
    (hK : ∀ v' w', w'.ownsRow base e size v' (n + m) (xs ++ ys) → w.grownBy w' v.ownBlock → wpList P ops Q rest (a.put o.dst v') w') :
    wpList P ops Q (o :: rest) a w := by
  obtain ⟨q1, q2⟩ := id hown2
  rcases q2 with ⟨rfl, rfl⟩ | ⟨g, cap, cur, rfl, _⟩
  · obtain rfl : ys = [] := List.eq_nil_of_length_eq_zero (by simpa using q1)
    exact wpList_append_own_none hg s x t hop base e i size h1 h2 v n xs hs hown hx (hK v w (by simpa using hown) (World.grownBy.refl _ _))
  · refine wpList_append_own w hg s x t hop base e i z size bytes h1 h2 h3 h4 h5 h6 h7 v n xs hs hown ⟨g, 0, none⟩ m cap ys hx q1 (fun j u hu => ?_) h1c k1 k2 hbase (fun v' w' r1 r2 _ => hK v' w' r1 r2)
    have hj := (List.getElem?_eq_some_iff.1 hu).1
    rw [Addr.add_lit, Nat.zero_add, hown2.cellAt j (by omega)]
    exact hu
theorem dms_take {n : Nat} {l : List (El (n + 2))} {k : Nat} (h : k < l.length) : dms (l.take (k + 1)) = dms (l.take k) ++ dmE l[k] := by
  unfold dms
  rw [List.take_succ_eq_append_getElem h, List.map_append, List.flatten_append]
  simp
theorem dmE_len {n : Nat} (x : El (n + 2)) (h1 : x.2.2.2.length ≤ 8) (h2 : ∀ s ∈ x.2.2.2, s.length ≤ 24) : (dmE x).length ≤ 193 := by
  have h3 := dmI_len _ h2
  unfold dmE
  rw [List.length_append]
  have a1 : (if kindT x.1 = [] then [] else [(x.2.1, x.2.2.1, kindT x.1)] : List Dm).length ≤ 1 := by split <;> simp
  have a2 : (if x.1 = 533016 then dmI x.2.2.2 else []).length ≤ 192 := by
    split
    · omega
    · simp
  omega
theorem dms_len {n : Nat} : ∀ (l : List (El (n + 2))), (∀ x ∈ l, x.2.2.2.length ≤ 8 ∧ ∀ s ∈ x.2.2.2, s.length ≤ 24) → (dms l).length ≤ 193 * l.length
  | [], _ => by simp [dms]
  | x :: l, h => by
    have h1 := dmE_len x (h x List.mem_cons_self).1 (h x List.mem_cons_self).2
    have h3 := dms_len l (fun t ht => h t (List.mem_cons_of_mem _ ht))
    unfold dms at h3 ⊢
    rw [List.map_cons, List.flatten_cons, List.length_append, List.length_cons]
    omega
set_option maxRecDepth 20000 in
set_option maxHeartbeats 2000000 in
theorem demands_any (n : Nat) (F : Nat → Prop) (w : World) (v : Value) (l : List (El (n + 2))) (h : Rd w F (n + 2) v l) (hF : ∀ j, F j → j < w.heap.size) (hl : l.length ≤ 24) (hx : ∀ x ∈ l, x.2.2.2.length ≤ 8 ∧ ∀ s ∈ x.2.2.2, s.length ≤ 24) :
    Calls Tryz.prog 151 #[v] w fun e w' => ∃ v' xs, e = .returned v' ∧ Below w.heap.size w w' ∧ w'.ownsRow w.heap.size 187 5 v' (dms l).length xs ∧ Ls 5 CpD xs (dms l) [] := by
  obtain ⟨ad, cap, rfl⟩ := h.slice
  obtain ⟨i0, hi0, hz0, hz1, hz2⟩ := info_parts info_demand
  have HI := hid hi0
  have H := hid h
  have HF := hid hF
  have HX := hid hx
  clear hi0 h hF hx
  go_enter Tryz.func151, Tryz.ntmps151
  go_wp2_with fail
  go_loopw [3, 9] (fun o i wr => ∃ (k : Nat) (xs : List Value), k ≤ l.length ∧ i = .int .i64 k ∧ Hid (wr.ownsRow w.heap.size 187 5 o (dms (l.take k)).length xs) ∧ Hid (Ls 5 CpD xs (dms (l.take k)) []) ∧ Hid (Below w.heap.size w wr)) (fun _ i _ => l.length - (intOf i).toNat)
  case atStart => exact ⟨0, [], Nat.zero_le _, rfl, World.ownsRow_nil _ _ _ _, ⟨rfl, rfl⟩, Below.refl _ _⟩
  case round =>
    obtain ⟨k, xs, hk, rfl, hown, hls, hU⟩ := hrel
    by_cases hkl : k < l.length
    · have hat := hid (H.out.at (List.getElem?_eq_getElem hkl))
      obtain ⟨a, ad2, cap2, rfl, _, d0, d1, d2, d3, hrd⟩ := hat.out
      have c0 := hU.out.cell (World.block_lt_of_cell? _ _ d0) |>.trans d0
      have c1 := hU.out.cell (World.block_lt_of_cell? _ _ d1) |>.trans d1
      have c2 := hU.out.cell (World.block_lt_of_cell? _ _ d2) |>.trans d2
      have c3 := hU.out.cell (World.block_lt_of_cell? _ _ d3) |>.trans d3
      have hrd2 := hid hrd
      have hst := hid (dms_take hkl)
      have hxk := hid (HX.out _ (List.getElem_mem hkl))
      have hlen := hid (show (dms (l.take k)).length ≤ 4632 from Nat.le_trans (dms_len _ (fun s hs => HX.out s (List.mem_of_mem_take hs))) (by rw [List.length_take]; omega))
      clear hrd hat d0 d1 d2 d3
      generalize l[k] = x at c0 c1 c2 c3 hrd2 hst hxk
      generalize dms (l.take k) = done at hown hls hst hlen
      have hX := Four.new wr (.int .i64 x.1) (.string (bs x.2.1)) (.string (bs x.2.2.1)) (.slice ad2 x.2.2.2.length cap2)
      obtain ⟨⟨x0, x1, x2, x3⟩, _⟩ := hX.cells
      have HX4 := hid hX
      have U1 := hid (Below.alloc hU.out hU.out.size (.cells #[.int .i64 x.1, .string (bs x.2.1), .string (bs x.2.2.1), .slice ad2 x.2.2.2.length cap2] 73))
      have O1 := hid (hown.out.alloc (.cells #[.int .i64 x.1, .string (bs x.2.1), .string (bs x.2.2.1), .slice ad2 x.2.2.2.length cap2] 73))
      have hOl := hid (ownsRow_lt hown.out)
      clear hX
      go_wp2_with fail
      go_at_call 178
      refine (kindOf_any _ x.1).mono ?_
      rintro e w1 ⟨rfl, rfl⟩
      have e1 := bs_toList (kindT x.1)
      by_cases hkd : kindT x.1 = []
      · have ht : x.1 ≠ 533016 := fun e => by rw [e] at hkd; exact absurd hkd (by decide)
        have htb : (x.1 == 533016) = false := by simpa using ht
        have hst2 := hid (show dms (l.take (k + 1)) = done by rw [hst.out, dmE, if_pos hkd, if_neg ht]; simp)
        rw [hkd] at e1 ⊢
        clear hst hkd ht
        go_wp2
        go_roundw
        case rel =>
          refine ⟨k + 1, xs, by omega, by go_num, ?_, ?_, U1⟩
          · unfold Hid; rw [hst2.out]; exact O1.out
          · unfold Hid; rw [hst2.out]; exact hls.out
        case measure => simp [intOf]; omega
      · have hkb : (kindT x.1 == []) = false := by simpa using hkd
        have hke : (kindT x.1).isEmpty = false := by cases hc : kindT x.1 with | nil => exact absurd hc hkd | cons _ _ => rfl
        have hst2 := hid (show dms (l.take (k + 1)) = (done ++ [(x.2.1, x.2.2.1, kindT x.1)]) ++ (if x.1 = 533016 then dmI x.2.2.2 else []) by rw [hst.out, dmE, if_neg hkd, List.append_assoc])
        clear hst hkd
        generalize kindT x.1 = kk at e1 hkb hke hst2
        go_wp2_with (at_builtin; refine wpList_append_own _ rfl _ _ 183 rfl w.heap.size 187 i0 _ 5 80 Tryz.underlying183 HI.out hz0 hz1 hz2 rfl (by decide) _ _ _ rfl (O1.out.alloc _) ⟨wr.heap.size + 1, 0, none⟩ 1 1 [.int .i64 x.1, .string (bs x.2.1), .string (bs x.2.2.1), .slice ad2 x.2.2.2.length cap2, .string (bs kk)] rfl rfl (five_cells _ _ _ _ _ _ _ _ (by simp)) five_one (by have := hlen.out; unfold maxLen; omega) (by have := hlen.out; omega) (by have := U1.out.size; simp only [World.size_alloc] at this ⊢; omega) ?_)
        intro v3 w3 hown3 hg3 _
        have U3 := hid (up_grow U1.out O1.out _ hg3)
        have O3 := hid hown3
        have L3 := hid (Ls.snoc (k := 5) (R := CpD) (c := [.int .i64 x.1, .string (bs x.2.1), .string (bs x.2.2.1), .slice ad2 x.2.2.2.length cap2, .string (bs kk)]) (b := []) (x := (x.2.1, x.2.2.1, kk)) rfl ⟨rfl, _, _, _, _, rfl⟩ hls.out)
        have X3 := HX4.out.keep ((hg3.block _ (by simp; omega) (fun e => by have := hOl.out wr.heap.size (by rw [← e]; simp); omega)).trans (Below.heap_alloc _ _ _ (by simp)))
        obtain ⟨⟨y0, y1, y2, y3⟩, _⟩ := X3.cells
        clear hown3 hg3 X3 x0 x1 x2 x3 c0 c1 c2 c3 HX4 hOl
        have hl3 : (done ++ [(x.2.1, x.2.2.1, kk)]).length = done.length + 1 := by simp
        have hlt : wr.heap.size < w3.heap.size := World.block_lt_of_cell? _ _ y0
        by_cases ht : x.1 = 533016
        · have htb : (x.1 == 533016) = true := by simpa using ht
          have hst3 := hid (hst2.out.trans (by rw [if_pos ht]))
          have hdl := dmI_len _ hxk.out.2
          have hd8 := hxk.out.1
          clear hst2 ht
          go_wp2_with fail
          go_at_call 214
          refine (demandsInParts_any n F w3 _ x.2.2.2 (hrd2.out.up U3.out) (fun j hj => Nat.lt_of_lt_of_le (HF.out j hj) U3.out.size) hxk.out.1 hxk.out.2).mono ?_
          rintro e w4 ⟨v4, ys, rfl, u4, o4, l4⟩
          have O4 := hid (ownsRow_keep O3.out (w' := w4) (fun j hj => u4.block j (ownsRow_lt O3.out j hj)))
          have U4 := hid (U3.out.trans (u4.mono U3.out.size))
          have P4 := hid o4
          have L4 := hid l4
          clear u4 o4 l4
          generalize dmI x.2.2.2 = di at hst3 hdl P4 L4
          go_wp2_with (at_builtin; refine wpList_append_row _ rfl _ _ 183 rfl w.heap.size 187 i0 _ 5 80 Tryz.underlying183 HI.out hz0 hz1 hz2 rfl (by decide) _ _ _ rfl O4.out _ di.length w3.heap.size ys rfl P4.out (cpd_one L4.out) (by have := hlen.out; unfold maxLen; omega) (by have := hlen.out; omega) (by have := U4.out.size; omega) ?_)
          intro v5 w5 hown5 hg5
          have U5 := hid (up_append4 U4.out O4.out hg5)
          have O5 := hid hown5
          clear hown5 hg5
          go_wp2
          go_roundw
          case rel =>
            refine ⟨k + 1, (xs ++ [.int .i64 x.1, .string (bs x.2.1), .string (bs x.2.2.1), .slice ad2 x.2.2.2.length cap2, .string (bs kk)]) ++ ys, by omega, by go_num, ?_, ?_, U5⟩
            · unfold Hid; rw [hst3.out, List.length_append, hl3, List.append_assoc]; exact O5.out
            · unfold Hid; rw [hst3.out]; exact Ls.app L4.out L3.out
          case measure => simp [intOf]; omega
        · have htb : (x.1 == 533016) = false := by simpa using ht
          have hst3 := hid (hst2.out.trans (by rw [if_neg ht, List.append_nil]))
          clear hst2 ht
          go_wp2
          go_roundw
          case rel =>
            refine ⟨k + 1, xs ++ [.int .i64 x.1, .string (bs x.2.1), .string (bs x.2.2.1), .slice ad2 x.2.2.2.length cap2, .string (bs kk)], by omega, by go_num, ?_, ?_, U3⟩
            · unfold Hid; rw [hst3.out, hl3]; exact O3.out
            · unfold Hid; rw [hst3.out]; exact L3.out
          case measure => simp [intOf]; omega
    · have hall : dms (l.take k) = dms l := by rw [List.take_of_length_le (by omega)]
      have O := hid hown.out
      have L := hid hls.out
      rw [hall] at O L
      clear hown hls hall
      go_wp2
      go_ret
      exact ⟨_, xs, rfl, hU.out, O.out, L.out⟩
end Go.Proofs.YtaokifbpakbgdaaGreatDoor

/- What follows for a data set in which nothing is wrong (no program). -/
namespace Go.Proofs.YtaokifbpakbgdaaGreatDoor

theorem errE_props {n : Nat} {g : Its n → Int} {d : Nat} {b : Int} {x : El (n + 1)} (h : errE g d b x = 0) :
    isK x.2.1 = true ∧ (0 ≤ x.1 ∧ x.1 ≤ 4294967295 ∧ b < x.1) ∧ x.2.2.1.length ≤ 64 ∧ (x.2.1 ≠ SQ → x.2.2.2 = []) ∧ (x.2.1 = SQ → x.2.2.1 = []) ∧ x.2.2.2.length ≤ 8 ∧ g x.2.2.2 = 0 := by
  unfold errE at h
  by_cases h1 : isK x.2.1 = false
  · rw [if_pos h1] at h; cases h
  rw [if_neg h1] at h
  by_cases h2 : x.1 < 0 ∨ 4294967295 < x.1 ∨ x.1 / 65536 = 65534 ∨ x.1 ≤ b
  · rw [if_pos h2] at h; cases h
  rw [if_neg h2] at h
  by_cases h3 : 64 < x.2.2.1.length ∨ x.2.2.1.getLast? = some (padB x.2.1)
  · rw [if_pos h3] at h; cases h
  rw [if_neg h3] at h
  by_cases h4 : (x.2.1 = SQ ∧ x.2.2.1 ≠ []) ∨ (x.2.1 ≠ SQ ∧ x.2.2.2 ≠ [])
  · rw [if_pos h4] at h; cases h
  rw [if_neg h4] at h
  by_cases h5 : 8 < x.2.2.2.length
  · rw [if_pos h5] at h; cases h
  rw [if_neg h5] at h
  by_cases h6 : x.2.1 = SQ ∧ 2 ≤ d
  · rw [if_pos h6] at h; cases h
  rw [if_neg h6] at h
  refine ⟨by simpa using h1, ⟨by omega, by omega, by omega⟩, ?_, fun e => ?_, fun e => ?_, by omega, h⟩
  · have : ¬ 64 < x.2.2.1.length := fun h => h3 (Or.inl h)
    omega
  · exact Decidable.byContradiction fun c => h4 (Or.inr ⟨e, c⟩)
  · exact Decidable.byContradiction fun c => h4 (Or.inl ⟨e, c⟩)
theorem errL_props {n : Nat} {g : Its n → Int} {d : Nat} : ∀ {l : List (El (n + 1))} {b : Int}, errL (errE g d) (fun x => x.1) b l = 0 → (∀ x ∈ l, b < x.1 ∧ ∃ b', errE g d b' x = 0) ∧ l.Pairwise (fun x y => x.1 < y.1)
  | [], _, _ => ⟨(fun x hx => nomatch hx), List.Pairwise.nil⟩
  | x :: l, b, h => by
    rw [errL] at h
    by_cases he : errE g d b x = 0
    · rw [if_pos he] at h
      obtain ⟨h1, h2⟩ := errL_props h
      have h3 := (errE_props he).2.1.2.2
      refine ⟨fun y hy => ?_, List.pairwise_cons.2 ⟨fun y hy => (h1 y hy).1, h2⟩⟩
      rcases List.mem_cons.1 hy with rfl | hy
      · exact ⟨h3, b, he⟩
      · exact ⟨by have := (h1 y hy).1; omega, (h1 y hy).2⟩
    · rw [if_neg he] at h
      exact absurd h he
theorem errI_props {α : Type} {f : List α → Int} : ∀ {l : List (List α)}, errI f l = 0 → ∀ s ∈ l, f s = 0
  | [], _, s, hs => nomatch hs
  | t :: l, h, s, hs => by
    rw [errI] at h
    by_cases he : f t = 0
    · rw [if_pos he] at h
      rcases List.mem_cons.1 hs with rfl | hs
      · exact he
      · exact errI_props h s hs
    · rw [if_neg he] at h
      exact absurd h he
theorem errS_props {n d : Nat} {l : List (El (n + 1))} (h : errS (n + 1) d l = 0) : l.length ≤ 24 ∧ l.Pairwise (fun x y => x.1 < y.1) ∧ ∀ x ∈ l, isK x.2.1 = true ∧ (0 ≤ x.1 ∧ x.1 ≤ 4294967295) ∧ x.2.2.1.length ≤ 64 ∧ (x.2.1 ≠ SQ → x.2.2.2 = []) ∧ (x.2.1 = SQ → x.2.2.1 = []) ∧ x.2.2.2.length ≤ 8 ∧ ∀ s ∈ x.2.2.2, errS n (d + 1) s = 0 := by
  rw [errS] at h
  by_cases h1 : 24 < l.length
  · rw [if_pos h1] at h; cases h
  rw [if_neg h1] at h
  obtain ⟨h2, h3⟩ := errL_props h
  refine ⟨by omega, h3, fun x hx => ?_⟩
  obtain ⟨_, b', he⟩ := h2 x hx
  obtain ⟨p1, p2, p3, p4, p5, p6, p7⟩ := errE_props he
  exact ⟨p1, ⟨p2.1, p2.2.1⟩, p3, p4, p5, p6, errI_props p7⟩
/-- What is asked of a data set that is looked at as a description. -/
def Sane {n : Nat} (l : List (El (n + 2))) : Prop := l.length ≤ 24 ∧ ∀ x ∈ l, x.2.2.1.length ≤ 64 ∧ x.2.2.2.length ≤ 8 ∧ ∀ s ∈ x.2.2.2, s.length ≤ 24 ∧ ∀ y ∈ s, y.2.2.1.length ≤ 64
theorem sane_of {n d : Nat} {l : List (El (n + 2))} (h : errS (n + 2) d l = 0) : Sane l := by
  obtain ⟨h1, _, h2⟩ := errS_props (n := n + 1) h
  refine ⟨h1, fun x hx => ?_⟩
  obtain ⟨_, _, p3, _, _, p6, p7⟩ := h2 x hx
  refine ⟨p3, p6, fun s hs => ?_⟩
  obtain ⟨q1, _, q2⟩ := errS_props (n := n) (p7 s hs)
  exact ⟨q1, fun y hy => (q2 y hy).2.2.1⟩
end Go.Proofs.YtaokifbpakbgdaaGreatDoor
