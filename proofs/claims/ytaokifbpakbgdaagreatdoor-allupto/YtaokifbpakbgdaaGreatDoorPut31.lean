/-
  Several texts in one; what each one has stands at its head.
-/
import Derived.Test.YtaokifbpakbgdaaGreatDoorPut29
import Derived.Test.YtaokifbpakbgdaaGreatDoorPut30
/- Package folioref on archives: inserted. -/
namespace Go.Proofs.YtaokifbpakbgdaaGreatDoor
open Go.RowKit

/-- A pair more, in the order of the names. -/
def insP (p : By × By) : List (By × By) → List (By × By)
  | [] => [p]
  | u :: r => if Op.bytesLess p.1 u.1 = true then p :: u :: r else u :: insP p r
theorem insP_len (p : By × By) : ∀ L, (insP p L).length = L.length + 1
  | [] => rfl
  | u :: r => by
    rw [insP]
    split
    · rfl
    · rw [List.length_cons, insP_len p r, List.length_cons]
abbrev stW (s : By) : Value := .string (bs s)
/-- Two rows of strings, apart from one another. -/
def Two (base : Nat) (w : World) (a b : Value) (LA LB : List By) : Prop := w.ownsRow 0 9 1 a LA.length (LA.map stW) ∧ w.ownsRow 0 9 1 b LB.length (LB.map stW) ∧ (∀ j ∈ a.ownBlock.toList, j ∉ b.ownBlock.toList) ∧ (∀ j ∈ a.ownBlock.toList, base ≤ j) ∧ ∀ j ∈ b.ownBlock.toList, base ≤ j
theorem Two.nil (base : Nat) (w : World) : Two base w (.slice none 0 0) (.slice none 0 0) [] [] := ⟨World.ownsRow_nil _ _ _ _, World.ownsRow_nil _ _ _ _, fun j hj => by simp [Value.ownBlock] at hj, fun j hj => by simp [Value.ownBlock] at hj, fun j hj => by simp [Value.ownBlock] at hj⟩
theorem Two.swap {base : Nat} {w : World} {a b : Value} {LA LB : List By} (h : Two base w a b LA LB) : Two base w b a LB LA := ⟨h.2.1, h.1, fun j hj h2 => h.2.2.1 j h2 hj, h.2.2.2.2, h.2.2.2.1⟩
theorem Two.push {base : Nat} {w w3 : World} {a a' b : Value} {LA LB : List By} {o : Obj} {s : By} (h : Two base w a b LA LB) (hb : base ≤ w.heap.size) (hown : w3.ownsRow 0 9 1 a' (LA.length + 1) (LA.map stW ++ [stW s])) (hg : (w.alloc o).grownBy w3 a.ownBlock) (hv : Moved (w.alloc o) a a') : Two base w3 a' b (LA ++ [s]) LB := by
  obtain ⟨h1, h2, h3, h4, h5⟩ := h
  have hmv : ∀ j ∈ a'.ownBlock.toList, j ∈ a.ownBlock.toList ∨ w.heap.size < j + 1 := fun j hj => by
    rcases hv with e | e
    · rw [e] at hj; exact Or.inl hj
    · have := e j hj
      rw [World.size_alloc] at this
      exact Or.inr (by omega)
  refine ⟨by rw [List.length_append, List.map_append]; exact hown, ownsRow_keep h2 (fun j hj => ?_), fun j hj hjb => ?_, fun j hj => ?_, h5⟩
  · have hlt := ownsRow_lt h2 j hj
    rw [hg.block j (by rw [World.size_alloc]; omega) (fun e => h3 j (by rw [← e]; simp) hj), Below.heap_alloc _ _ _ hlt]
  · rcases hmv j hj with e | e
    · exact h3 j e hjb
    · have := ownsRow_lt h2 j hjb; omega
  · rcases hmv j hj with e | e
    · exact h4 j e
    · omega
theorem Two.below {w0 w w3 : World} {a b : Value} {LA LB : List By} {o : Obj} (h : Two w0.heap.size w a b LA LB) (hU : Below w0.heap.size w0 w) (hg : (w.alloc o).grownBy w3 a.ownBlock) : Below w0.heap.size w0 w3 :=
  (UpB.of_below (b := w0.heap.size) (Below.alloc hU hU.size o)).grown hg (fun k hk => Or.inr (h.2.2.2.1 k (by rw [hk]; simp))) |>.below (Nat.le_refl _) (Nat.le_refl _)
theorem str_at {w : World} {base : Nat} {v : Value} {L : List By} (h : w.ownsRow base 9 1 v L.length (L.map stW)) {k : Nat} (hk : k < L.length) : ∃ g cap, v = .slice (some ⟨g, 0, none⟩) L.length cap ∧ w.cell? ⟨g, k, none⟩ = some (.string (bs L[k])) := by
  rcases id h.2 with ⟨_, h1⟩ | ⟨g, cap, cur, e, _⟩
  · omega
  · subst e
    refine ⟨g, cap, rfl, ?_⟩
    rw [h.cellAt k (by simpa using hk)]
    simp [hk]
/-- What is still to come. -/
def insR (p : By × By) (d : Bool) (L : List (By × By)) : List (By × By) := if d = true then L else insP p L
theorem insR_drop {p : By × By} {d : Bool} {L : List (By × By)} {k : Nat} (h : k < L.length) : insR p d (L.drop k) = if d = false ∧ Op.bytesLess p.1 L[k].1 = true then p :: L[k] :: insR p true (L.drop (k + 1)) else L[k] :: insR p d (L.drop (k + 1)) := by
  rw [List.drop_eq_getElem_cons h]
  unfold insR
  cases d
  · simp only [Bool.false_eq_true, if_false, true_and, if_true, insP]
  · simp
set_option maxRecDepth 20000 in
set_option maxHeartbeats 4000000 in
theorem rinserted_any (w : World) (v1 v2 : Value) (L : List (By × By)) (p : By × By) (base : Nat) (h1 : w.ownsRow base 9 1 v1 (L.map (·.1)).length ((L.map (·.1)).map stW)) (h2 : w.ownsRow base 9 1 v2 (L.map (·.2)).length ((L.map (·.2)).map stW)) (hl : L.length ≤ 48) :
    Calls Tryz.prog 170 #[v1, v2, .string (bs p.1), .string (bs p.2)] w fun e w' => ∃ a b, e = .returned (.tuple #[a, b]) ∧ Below w.heap.size w w' ∧ Two w.heap.size w' a b ((insP p L).map (·.1)) ((insP p L).map (·.2)) := by
  obtain ⟨i0, hi0, hz0, hz1, hz2⟩ := info_parts info_str
  obtain ⟨ad1, cap1, e1⟩ := row_sl h1
  obtain ⟨ad2, cap2, e2⟩ := row_sl h2
  rw [List.length_map] at e1 e2
  subst e1
  subst e2
  have HI := hid hi0
  have H1 := hid h1
  have H2 := hid h2
  clear hi0 h1 h2
  go_enter Tryz.func170, Tryz.ntmps170
  go_wp2_with fail
  go_loopw [10, 11, 12, 13] (fun a b d i wr => ∃ (k : Nat) (dd : Bool) (Q : List (By × By)), k ≤ L.length ∧ i = .int .i64 k ∧ d = .bool dd ∧ Hid (Two w.heap.size wr a b (Q.map (·.1)) (Q.map (·.2))) ∧ Hid (insP p L = Q ++ insR p dd (L.drop k)) ∧ Hid (Below w.heap.size w wr)) (fun _ _ _ i _ => L.length - (intOf i).toNat)
  case atStart => exact ⟨0, false, [], Nat.zero_le _, rfl, rfl, Two.nil _ _, rfl, Below.refl _ _⟩
  case round =>
    obtain ⟨k, dd, Q, hk, rfl, rfl, hT, hE, hU⟩ := hrel
    have hQl : Hid (Q.length ≤ 49) := by
      have := congrArg List.length hE.out
      rw [insP_len, List.length_append] at this
      unfold Hid; omega
    obtain ⟨QA, hQA⟩ : ∃ QA, Q.map (·.1) = QA := ⟨_, rfl⟩
    obtain ⟨QB, hQB⟩ : ∃ QB, Q.map (·.2) = QB := ⟨_, rfl⟩
    rw [hQA, hQB] at hT
    have hla : QA.length ≤ 49 := by rw [← hQA, List.length_map]; exact hQl.out
    have hlb : QB.length ≤ 49 := by rw [← hQB, List.length_map]; exact hQl.out
    have HQA := hid hQA
    have HQB := hid hQB
    clear hQA hQB
    by_cases hkl : k < L.length
    · obtain ⟨g1, c1, ev1, d1⟩ := str_at H1.out (k := k) (by simpa using hkl)
      obtain ⟨g2, c2, ev2, d2⟩ := str_at H2.out (k := k) (by simpa using hkl)
      rw [List.length_map] at ev1 ev2
      obtain ⟨rfl, _, rfl⟩ := Value.slice.inj ev1
      obtain ⟨rfl, _, rfl⟩ := Value.slice.inj ev2
      rw [List.getElem_map] at d1 d2
      have hst := hid (hE.out.trans (congrArg (Q ++ ·) (insR_drop (p := p) (d := dd) hkl)))
      clear ev1 ev2 hE
      generalize L[k] = u at d1 d2 hst
      have DW := hid (fun (W : World) (hW : Below w.heap.size w W) => And.intro ((hW.cell (World.block_lt_of_cell? _ _ d1)).trans d1) ((hW.cell (World.block_lt_of_cell? _ _ d2)).trans d2))
      obtain ⟨e1, e2⟩ := DW.out wr hU.out
      have y1 := bs_toList p.1
      have y2 := bs_toList u.1
      clear d1 d2
      by_cases hc : dd = false ∧ Op.bytesLess p.1 u.1 = true
      · obtain ⟨rfl, hless⟩ := hc
        have hE2 := hid (hst.out.trans (congrArg (Q ++ ·) (if_pos ⟨rfl, hless⟩)))
        clear hst
        go_wp2_with (at_builtin; refine wpList_append_sep _ rfl _ _ 70 rfl 9 i0 (.string ByteArray.empty) 1 16 Tryz.underlying70 HI.out hz0 hz1 hz2 rfl (by decide) _ _ _ rfl (hT.out.1.alloc _) ⟨wr.heap.size, 0, none⟩ 1 1 [.string (bs p.1)] rfl rfl (one_at _ _ _) (by intro u hu; simp at hu; subst hu; rfl) (by unfold maxLen; omega) (by omega) ?_)
        intro v5 w5 ho hg hv
        have T5 := hid (hT.out.push hU.out.size ho hg hv)
        have U5 := hid (hT.out.below hU.out hg)
        clear ho hg hv
        generalize hx : QA ++ [p.1] = XA at T5
        have hXA : XA.length ≤ 50 := by rw [← hx]; simp; omega
        have HXA := hid hx
        clear hx
        have f5 := DW.out _ U5.out
        go_wp2_with (at_builtin; refine wpList_append_sep _ rfl _ _ 70 rfl 9 i0 (.string ByteArray.empty) 1 16 Tryz.underlying70 HI.out hz0 hz1 hz2 rfl (by decide) _ _ _ rfl (T5.out.2.1.alloc _) ⟨w5.heap.size, 0, none⟩ 1 1 [.string (bs p.2)] rfl rfl (one_at _ _ _) (by intro u hu; simp at hu; subst hu; rfl) (by unfold maxLen; omega) (by omega) ?_)
        intro v6 w6 ho hg hv
        have T6 := hid ((T5.out.swap.push U5.out.size ho hg hv).swap)
        have U6 := hid (T5.out.swap.below U5.out hg)
        clear ho hg hv
        generalize hx : QB ++ [p.2] = XB at T6
        have hXB : XB.length ≤ 50 := by rw [← hx]; simp; omega
        have HXB := hid hx
        clear hx
        obtain ⟨d61, d62⟩ := DW.out _ U6.out
        go_wp2_with (at_builtin; refine wpList_append_sep _ rfl _ _ 70 rfl 9 i0 (.string ByteArray.empty) 1 16 Tryz.underlying70 HI.out hz0 hz1 hz2 rfl (by decide) _ _ _ rfl (T6.out.1.alloc _) ⟨w6.heap.size, 0, none⟩ 1 1 [.string (bs u.1)] rfl rfl (one_at _ _ _) (by intro u hu; simp at hu; subst hu; rfl) (by unfold maxLen; omega) (by omega) ?_)
        intro v7 w7 ho hg hv
        have T7 := hid (T6.out.push U6.out.size ho hg hv)
        have U7 := hid (T6.out.below U6.out hg)
        clear ho hg hv
        generalize hx : XA ++ [u.1] = YA at T7
        have hYA : YA.length ≤ 51 := by rw [← hx]; simp; omega
        have HYA := hid hx
        clear hx
        obtain ⟨d71, d72⟩ := DW.out _ U7.out
        go_wp2_with (at_builtin; refine wpList_append_sep _ rfl _ _ 70 rfl 9 i0 (.string ByteArray.empty) 1 16 Tryz.underlying70 HI.out hz0 hz1 hz2 rfl (by decide) _ _ _ rfl (T7.out.2.1.alloc _) ⟨w7.heap.size, 0, none⟩ 1 1 [.string (bs u.2)] rfl rfl (one_at _ _ _) (by intro u hu; simp at hu; subst hu; rfl) (by unfold maxLen; omega) (by omega) ?_)
        intro v8 w8 ho hg hv
        have T8 := hid ((T7.out.swap.push U7.out.size ho hg hv).swap)
        have U8 := hid (T7.out.swap.below U7.out hg)
        clear ho hg hv
        generalize hx : XB ++ [u.2] = YB at T8
        have hYB : YB.length ≤ 51 := by rw [← hx]; simp; omega
        have HYB := hid hx
        clear hx
        go_wp2
        go_roundw
        case rel =>
          refine ⟨k + 1, true, Q ++ [p] ++ [u], by omega, by go_num, rfl, ?_, ?_, U8⟩
          · have := T8.out
            rw [← HYA.out, ← HYB.out, ← HXA.out, ← HXB.out, ← HQA.out, ← HQB.out] at this
            unfold Hid
            simp only [List.map_append, List.map_cons, List.map_nil]
            exact this
          · unfold Hid
            rw [hE2.out]
            simp
        case measure => simp [intOf]; omega
      · have hE2 := hid (hst.out.trans (congrArg (Q ++ ·) (if_neg hc)))
        have hcond : (dd = true) ∨ (dd = false ∧ Op.bytesLess p.1 u.1 = false) := by
          cases dd
          · exact Or.inr ⟨rfl, by simpa using hc⟩
          · exact Or.inl rfl
        clear hst hc
        rcases hcond with rfl | ⟨rfl, hless⟩
        all_goals
          go_wp2_with (at_builtin; refine wpList_append_sep _ rfl _ _ 70 rfl 9 i0 (.string ByteArray.empty) 1 16 Tryz.underlying70 HI.out hz0 hz1 hz2 rfl (by decide) _ _ _ rfl (hT.out.1.alloc _) ⟨wr.heap.size, 0, none⟩ 1 1 [.string (bs u.1)] rfl rfl (one_at _ _ _) (by intro u hu; simp at hu; subst hu; rfl) (by unfold maxLen; omega) (by omega) ?_)
          intro v7 w7 ho hg hv
          have T7 := hid (hT.out.push hU.out.size ho hg hv)
          have U7 := hid (hT.out.below hU.out hg)
          clear ho hg hv
          generalize hx : QA ++ [u.1] = YA at T7
          have hYA : YA.length ≤ 50 := by rw [← hx]; simp; omega
          have HYA := hid hx
          clear hx
          obtain ⟨d71, d72⟩ := DW.out _ U7.out
          go_wp2_with (at_builtin; refine wpList_append_sep _ rfl _ _ 70 rfl 9 i0 (.string ByteArray.empty) 1 16 Tryz.underlying70 HI.out hz0 hz1 hz2 rfl (by decide) _ _ _ rfl (T7.out.2.1.alloc _) ⟨w7.heap.size, 0, none⟩ 1 1 [.string (bs u.2)] rfl rfl (one_at _ _ _) (by intro u hu; simp at hu; subst hu; rfl) (by unfold maxLen; omega) (by omega) ?_)
          intro v8 w8 ho hg hv
          have T8 := hid ((T7.out.swap.push U7.out.size ho hg hv).swap)
          have U8 := hid (T7.out.swap.below U7.out hg)
          clear ho hg hv
          generalize hx : QB ++ [u.2] = YB at T8
          have hYB : YB.length ≤ 50 := by rw [← hx]; simp; omega
          have HYB := hid hx
          clear hx
          go_wp2
          go_roundw
          case rel =>
            refine ⟨k + 1, _, Q ++ [u], by omega, by go_num, rfl, ?_, ?_, U8⟩
            · have := T8.out
              rw [← HYA.out, ← HYB.out, ← HQA.out, ← HQB.out] at this
              unfold Hid
              simp only [List.map_append, List.map_cons, List.map_nil]
              exact this
            · unfold Hid
              rw [hE2.out]
              simp
          case measure => simp [intOf]; omega
    · have hnil : L.drop k = [] := List.drop_eq_nil_of_le (by omega)
      cases dd
      · have hE2 := hid (show insP p L = Q ++ [p] by rw [hE.out, hnil]; rfl)
        clear hE
        go_wp2_with (at_builtin; refine wpList_append_sep _ rfl _ _ 70 rfl 9 i0 (.string ByteArray.empty) 1 16 Tryz.underlying70 HI.out hz0 hz1 hz2 rfl (by decide) _ _ _ rfl (hT.out.1.alloc _) ⟨wr.heap.size, 0, none⟩ 1 1 [.string (bs p.1)] rfl rfl (one_at _ _ _) (by intro u hu; simp at hu; subst hu; rfl) (by unfold maxLen; omega) (by omega) ?_)
        intro v5 w5 ho hg hv
        have T5 := hid (hT.out.push hU.out.size ho hg hv)
        have U5 := hid (hT.out.below hU.out hg)
        clear ho hg hv
        generalize hx : QA ++ [p.1] = XA at T5
        have hXA : XA.length ≤ 50 := by rw [← hx]; simp; omega
        have HXA := hid hx
        clear hx
        go_wp2_with (at_builtin; refine wpList_append_sep _ rfl _ _ 70 rfl 9 i0 (.string ByteArray.empty) 1 16 Tryz.underlying70 HI.out hz0 hz1 hz2 rfl (by decide) _ _ _ rfl (T5.out.2.1.alloc _) ⟨w5.heap.size, 0, none⟩ 1 1 [.string (bs p.2)] rfl rfl (one_at _ _ _) (by intro u hu; simp at hu; subst hu; rfl) (by unfold maxLen; omega) (by omega) ?_)
        intro v6 w6 ho hg hv
        have T6 := hid ((T5.out.swap.push U5.out.size ho hg hv).swap)
        have U6 := hid (T5.out.swap.below U5.out hg)
        clear ho hg hv
        generalize hx : QB ++ [p.2] = XB at T6
        have hXB : XB.length ≤ 50 := by rw [← hx]; simp; omega
        have HXB := hid hx
        clear hx
        go_wp2
        go_ret2
        refine ⟨_, _, rfl, U6.out, ?_⟩
        rw [hE2.out]
        have := T6.out
        rw [← HXA.out, ← HXB.out, ← HQA.out, ← HQB.out] at this
        simp only [List.map_append, List.map_cons, List.map_nil]
        exact this
      · have hE2 := hid (show insP p L = Q by rw [hE.out, hnil]; simp [insR])
        clear hE
        go_wp2
        go_ret2
        refine ⟨_, _, rfl, hU.out, ?_⟩
        rw [hE2.out]
        have := hT.out
        rw [← HQA.out, ← HQB.out] at this
        exact this
end Go.Proofs.YtaokifbpakbgdaaGreatDoor

/- What the document's archive answers to a query is what the program's answers (no program): keys, what something has, what fits. -/
namespace Go.Proofs.YtaokifbpakbgdaaGreatDoor

theorem findE_of {n : Nat} {q : List (El (n + 1))} (hp : q.Pairwise (fun x y => x.1 < y.1)) {x : El (n + 1)} (hx : x ∈ q) : findE q x.1 = some x := by
  unfold findE
  induction q with
  | nil => simp at hx
  | cons y q ih =>
    obtain ⟨h1, h2⟩ := List.pairwise_cons.1 hp
    rw [List.find?_cons]
    rcases List.mem_cons.1 hx with rfl | hx
    · rw [decide_eq_true rfl]
    · have := h1 x hx
      rw [decide_eq_false (by omega)]
      exact ih h2 hx
theorem lvI_hit {m : Bool} {s : By} {i : Nat} : ∀ {r : List Nat}, lvI m s r = i → m = true ∧ s = wordL i
  | [], h => by rw [lvI] at h; omega
  | j :: r, h => by
    rw [lvI] at h
    by_cases hc : m = true ∧ s = wordL j
    · rw [if_pos hc] at h
      have : j = i := by omega
      subst this
      exact hc
    · rw [if_neg hc] at h
      exact lvI_hit h
theorem lev_facts {q : List (El 3)} (hq : errS 3 0 q = 0) {lvl : Nat} (hl : levO (n := 2) q = lvl) {x : El 3} (hx : x ∈ q) (ht : x.1 = 524370) : x.2.1 = [67, 83] ∧ x.2.2.1 = wordL lvl := by
  have hf := findE_of (errS_props (n := 2) hq).2.1 hx
  rw [ht] at hf
  unfold levO at hl
  rw [hf] at hl
  obtain ⟨h1, h2⟩ := lvI_hit hl
  exact ⟨by simpa using h1, h2⟩
theorem lev_key {q : List (El 3)} (hq : errS 3 0 q = 0) {lvl : Nat} (hlv : lvl < 4) (hl : levO (n := 2) q = lvl) : ∀ x ∈ q, x.1 = 524370 → keyE (n := 1) (lvl : Int) x = 0 := fun x hx ht => by
  obtain ⟨h1, h2⟩ := lev_facts hq hl hx ht
  unfold keyE
  rw [ht, if_neg (by rw [show rowT 524370 = 0 from by decide]; omega), if_neg (by rintro ⟨h, _⟩; omega)]
  unfold patE
  rw [h1, if_neg (by decide), h2]
  have : ∀ i, i < 4 → matchE (kindT 524370) (wordL i) [] = 0 := by decide
  exact this lvl hlv
theorem lev_fit : ∀ i, i < 4 → matchV [67, 83] (wordL i) (wordL i) = true := by decide
theorem goodQ_LO {lvl : Int} {q : List (El 3)} (h : errS 3 0 q = 0) (ha : askE (n := 1) lvl q = 0) : ∀ x ∈ q, ∀ a ∈ x.2.2.2, a.length ≤ 24 ∧ ∀ y ∈ a, y.2.1 = LO ∧ y.2.2.1.length ≤ 64 ∧ isWord y.1 = true := fun x hx a hai => by
  obtain ⟨_, _, h2⟩ := errS_props (n := 2) h
  obtain ⟨_, _, _, p4, _, _, p7⟩ := h2 x hx
  obtain ⟨q1, _, q3⟩ := errS_props (n := 1) (p7 a hai)
  refine ⟨q1, fun y hy => ?_⟩
  have hk := ask_keys ha x hx
  have hkd := keyE_kind hk
  have hsq : x.2.1 = SQ := Decidable.byContradiction (fun hc => by rw [p4 hc] at hai; simp at hai)
  have ht : x.1 = 533016 := kindT_SQ.1 (hkd.symm.trans hsq)
  unfold keyE at hk
  by_cases hr : lvl < rowT x.1
  · rw [if_pos hr] at hk; cases hk
  rw [if_neg hr, if_pos ⟨ht, hsq⟩] at hk
  unfold askPE at hk
  by_cases hl : 1 < x.2.2.2.length
  · rw [if_pos hl] at hk; cases hk
  rw [if_neg hl] at hk
  have h3 := fstE_zero (fstE_zero hk a hai) y hy
  unfold kipE at h3
  by_cases hw : isWord y.1 = true
  · rw [if_pos hw] at h3
    unfold patE at h3
    by_cases hLO : y.2.1 = LO
    · exact ⟨hLO, (q3 y hy).2.2.1, hw⟩
    · rw [if_pos hLO] at h3; cases h3
  · rw [if_neg hw] at h3; cases h3
/-- Tags that can be asked for. -/
theorem key_tag {n lvl : Nat} (hlv : lvl < 4) {x : El (n + 2)} (hk : keyE (lvl : Int) x = 0) (ht : x.1 ≠ 524370) : x.1 ∈ tagsA ∧ (rowT x.1 : Int) ≤ lvl := by
  have hr : ¬ (lvl : Int) < rowT x.1 := fun hr => by unfold keyE at hk; rw [if_pos hr] at hk; cases hk
  refine ⟨Decidable.byContradiction (fun hc => ?_), by omega⟩
  rw [rowT_none ht hc] at hr
  omega
theorem selA_filter {n : Nat} (i : Nat) (s : By) (A : List (List (El (n + 1)))) : selA (i : Int) s A = A.filter (fun o => nm i o == s) := by
  unfold selA
  congr 1
theorem decB_dec {u : Nat} (h : u < 100) : decB u = Lib.decDigits u := by
  have hd : ∀ k, k < 10 → digB k = UInt8.ofNat (48 + k) := by decide
  rw [dec_two h]
  unfold decB
  by_cases h1 : u < 10
  · rw [if_pos h1, if_pos h1, hd u h1]
  · rw [if_neg h1, if_neg h1, hd (u / 10) (by omega)]
    have : digB u = digB (u % 10) := by unfold digB; rw [Nat.mod_mod]
    rw [this, hd (u % 10) (by omega)]
theorem tell_other {n : Nat} {A : List (List (El (n + 2)))} {lvl : Nat} {l : List (El (n + 2))} {t : Int} (h0 : t ≠ 2101760) (h1 : t ≠ 2101766) (h2 : t ≠ 2101769) (h3 : t ≠ 524370) : tellN A lvl l 3 t = descG l t := by
  simp only [tellN, updG, cntT]
  simp [h0, h1, h2, h3]
theorem desc_val {n : Nat} {l : List (El (n + 2))} {t : Int} (h : isKept t = true) : valG (descG l) t = textE l t ∧ itsG (descG l) t = (itemsE l t).map wordsL := by
  unfold valG itsG descG textE itemsE
  rw [if_pos h]
  cases findE l t with
  | none => exact ⟨rfl, rfl⟩
  | some x => exact ⟨rfl, rfl⟩
/-- What something has is what is told of it. -/
theorem has_tell {n : Nat} {A : List (List (El (n + 2)))} (hA : A.length ≤ 48) {lvl : Nat} (hlv : lvl < 4) {l : List (El (n + 2))} {t : Int} (hm : t ∈ tagsA) (hr : (rowT t : Int) ≤ lvl) : hasV A lvl l t = valG (tellN A lvl l 3) t := by
  have hc : ∀ i s, cntB A i s < 100 := fun i s => Nat.lt_of_le_of_lt (cntB_le A i s) (by omega)
  have kA : ∀ lvl : Nat, lvl < 4 → rowG 2101760 0 (lvl + 1) = (0, true) := by decide
  have kB : ∀ lvl : Nat, lvl < 4 → 1 ≤ lvl → rowG 2101766 0 (lvl + 1) = (1, true) := by decide
  have kC : ∀ lvl : Nat, lvl < 4 → 2 ≤ lvl → rowG 2101769 0 (lvl + 1) = (2, true) := by decide
  have kD : ∀ t ∈ ([1048608, 1048592, 1048624, 2097165, 524320, 524336, 524368, 2097166, 524384, 2097169, 524312, 2097171, 533016] : List Int), ∀ lvl : Nat, lvl < 4 → (rowG t 0 (lvl + 1)).2 = false ∧ isKept t = true ∧ t ≠ 524370 := by decide
  have k0 : t = 2101760 → rowG t 0 (lvl + 1) = (0, true) := fun e => by rw [e]; exact kA lvl hlv
  have r1 : rowT 2101766 = 1 := by decide
  have r2 : rowT 2101769 = 2 := by decide
  have k1 : t = 2101766 → rowG t 0 (lvl + 1) = (1, true) := fun e => by
    subst e
    rw [r1] at hr
    exact kB lvl hlv (by omega)
  have k2 : t = 2101769 → rowG t 0 (lvl + 1) = (2, true) := fun e => by
    subst e
    rw [r2] at hr
    exact kC lvl hlv (by omega)
  have k3 : t ≠ 2101760 → t ≠ 2101766 → t ≠ 2101769 → (rowG t 0 (lvl + 1)).2 = false ∧ isKept t = true ∧ t ≠ 524370 := fun e0 e1 e2 => kD t (by
    unfold tagsA at hm
    simp only [List.mem_cons, List.not_mem_nil, or_false] at hm ⊢
    omega) lvl hlv
  unfold hasV
  by_cases e0 : t = 2101760
  · rw [k0 e0, if_pos rfl]
    subst e0
    show decB (seenA 1 (selA ((0 : Nat) : Int) (nm 0 l) A) []).length = Lib.decDigits (cntB A 0 (nm 0 l))
    rw [selA_filter, ← decB_dec (hc 0 (nm 0 l))]
    rfl
  by_cases e1 : t = 2101766
  · rw [k1 e1, if_pos rfl]
    subst e1
    show decB (seenA 2 (selA ((1 : Nat) : Int) (nm 1 l) A) []).length = Lib.decDigits (cntB A 1 (nm 1 l))
    rw [selA_filter, ← decB_dec (hc 1 (nm 1 l))]
    rfl
  by_cases e2 : t = 2101769
  · rw [k2 e2, if_pos rfl]
    subst e2
    show decB (seenA 3 (selA ((2 : Nat) : Int) (nm 2 l) A) []).length = Lib.decDigits (cntB A 2 (nm 2 l))
    rw [selA_filter, ← decB_dec (hc 2 (nm 2 l))]
    rfl
  obtain ⟨q1, q2, q3⟩ := k3 e0 e1 e2
  rw [if_neg (by rw [q1]; decide)]
  rw [← (desc_val (l := l) q2).1]
  unfold valG
  rw [tell_other e0 e1 e2 q3]
theorem its_tell {n : Nat} {A : List (List (El (n + 2)))} {lvl : Nat} {l : List (El (n + 2))} : itsG (tellN A lvl l 3) 533016 = (itemsE l 533016).map wordsL := by
  rw [← (desc_val (l := l) (t := 533016) (by decide)).2]
  unfold itsG
  rw [tell_other (by decide) (by decide) (by decide) (by decide)]
theorem ans_tell {n : Nat} {A : List (List (El (n + 2)))} (hA : A.length ≤ 48) {lvl : Nat} (hlv : lvl < 4) {l : List (El (n + 2))} {x : El (n + 2)} (hk : keyE (lvl : Int) x = 0) (hv : x.2.1 = SQ → valG (tellN A lvl l 3) x.1 = []) (hi : x.2.1 ≠ SQ → itsG (tellN A lvl l 3) x.1 = []) : ansF A lvl l x = ansE (tellN A lvl l 3) x := by
  have hkd := keyE_kind hk
  by_cases ht : x.1 = 524370
  · refine (if_pos ht).trans ?_
    unfold ansE
    rw [ht]
    rfl
  refine (if_neg ht).trans ?_
  by_cases hq : x.2.1 = SQ
  · have e : x.1 = 533016 := kindT_SQ.1 (hkd.symm.trans hq)
    refine (if_pos hq).trans ?_
    unfold ansE
    rw [hv hq, e, its_tell]
  · obtain ⟨m1, m2⟩ := key_tag hlv hk ht
    refine (if_neg hq).trans ?_
    unfold ansE
    rw [has_tell hA hlv m1 m2, hi hq]
theorem findE_words {n : Nat} {t : Int} (h : isWord t = true) : ∀ s : List (El (n + 1)), findE (wordsL s) t = findE s t
  | [] => rfl
  | y :: s => by
    have ih := findE_words h s
    unfold findE wordsL at ih ⊢
    by_cases hy : isWord y.1 = true
    · rw [List.filter_cons_of_pos (p := fun x : El (n + 1) => isWord x.1) hy, List.find?_cons, List.find?_cons, ih]
    · rw [List.filter_cons_of_neg (p := fun x : El (n + 1) => isWord x.1) hy, List.find?_cons, ih, decide_eq_false (fun e => hy (by rw [e]; exact h))]
theorem fitS_words {n : Nat} {a : List (El (n + 1))} (h : ∀ y ∈ a, isWord y.1 = true) (s : List (El (n + 1))) : fitS a (wordsL s) = fitS a s := by
  unfold fitS
  rw [Bool.eq_iff_iff, List.all_eq_true, List.all_eq_true]
  have : ∀ y ∈ a, fitY (wordsL s) y = fitY s y := fun y hy => by unfold fitY textE; rw [findE_words (h y hy)]
  exact ⟨fun hh y hy => by rw [← this y hy]; exact hh y hy, fun hh y hy => by rw [this y hy]; exact hh y hy⟩
theorem fit_tell {n : Nat} {A : List (List (El (n + 2)))} (hA : A.length ≤ 48) {lvl : Nat} (hlv : lvl < 4) {l : List (El (n + 2))} {x : El (n + 2)} (hk : keyE (lvl : Int) x = 0) (ht : x.1 ≠ 524370) (hw : ∀ a ∈ x.2.2.2, ∀ y ∈ a, isWord y.1 = true) : fitF A lvl l x = fitD1 (tellN A lvl l 3) x := by
  have hkd := keyE_kind hk
  unfold fitF fitD1 fitK
  by_cases hq : x.2.1 = SQ
  · rw [if_pos hq, if_pos hq]
    have e : x.1 = 533016 := kindT_SQ.1 (hkd.symm.trans hq)
    rw [e, its_tell]
    unfold fitI
    cases hx : x.2.2.2 with
    | nil => rfl
    | cons a r =>
      have hwa : ∀ y ∈ a, isWord y.1 = true := fun y hy => hw a (by rw [hx]; exact List.mem_cons_self) y hy
      simp only [List.any_map]
      congr 1
      funext s
      exact (fitS_words hwa s).symm
  · obtain ⟨m1, m2⟩ := key_tag hlv hk ht
    rw [if_neg hq, if_neg hq, has_tell hA hlv m1 m2]
end Go.Proofs.YtaokifbpakbgdaaGreatDoor

/- Package folioref on archives: Find. -/
namespace Go.Proofs.YtaokifbpakbgdaaGreatDoor
open Go.RowKit

/-- Does the description of a place fit all keys but the level? -/
def fitA (A : List (List (El 3))) (lvl : Nat) (l : List (El 3)) (x : El 3) : Bool := decide (x.1 = 524370) || fitF (n := 1) A lvl l x
def goodF (A : List (List (El 3))) (lvl : Nat) (q : List (El 3)) (k : Nat) : Bool := newestA (n := 2) A k lvl && q.all (fitA A lvl (A.getD k []))
/-- What is found among the first k. -/
def fndP (A : List (List (El 3))) (lvl : Nat) (q : List (El 3)) : Nat → List (By × By)
  | 0 => []
  | k + 1 => if goodF A lvl q k = true then insP (nm (n := 2) lvl (A.getD k []), wrS false 0 3 (q.map (ansF (n := 1) A lvl (A.getD k [])))) (fndP A lvl q k) else fndP A lvl q k
theorem fndP_len (A : List (List (El 3))) (lvl : Nat) (q : List (El 3)) : ∀ k, (fndP A lvl q k).length ≤ k
  | 0 => Nat.le_refl _
  | k + 1 => by
    rw [fndP]
    have := fndP_len A lvl q k
    split
    · rw [insP_len]; omega
    · omega
theorem Two.ge {base base' : Nat} {w : World} {a b : Value} {LA LB : List By} (h : Two base w a b LA LB) (hb : base' ≤ base) : Two base' w a b LA LB := ⟨h.1, h.2.1, h.2.2.1, fun j hj => Nat.le_trans hb (h.2.2.2.1 j hj), fun j hj => Nat.le_trans hb (h.2.2.2.2 j hj)⟩
theorem Two.up {base : Nat} {w w' : World} {a b : Value} {LA LB : List By} (h : Two base w a b LA LB) (k : Below w.heap.size w w') : Two base w' a b LA LB := ⟨ownsRow_keep h.1 (fun j hj => k.block j (ownsRow_lt h.1 j hj)), ownsRow_keep h.2.1 (fun j hj => k.block j (ownsRow_lt h.2.1 j hj)), h.2.2.1, h.2.2.2.1, h.2.2.2.2⟩
theorem insR_all {q : List (El 3)} {f : El 3 → Bool} {k : Nat} (h : k < q.length) : (q.drop k).all f = (f q[k] && (q.drop (k + 1)).all f) := by rw [List.drop_eq_getElem_cons h, List.all_cons]
theorem ansF_ok {A : List (List (El 3))} (hG : Good (n := 1) A) {lvl : Nat} (hlv : lvl < 4) {l : List (El 3)} (hl : l ∈ A) {q : List (El 3)} (hq : errS 3 0 q = 0) (hk : ∀ x ∈ q, keyE (n := 1) (lvl : Int) x = 0) : q.map (ansF (n := 1) A lvl l) = q.map (ansE (n := 1) (tellN (n := 1) A lvl l 3)) ∧ errS 3 0 (q.map (ansF (n := 1) A lvl l)) = 0 := by
  have h1 : ∀ x ∈ q, OkV x.2.1 (valG (tellN (n := 1) A lvl l 3) x.1) (itsG (tellN (n := 1) A lvl l 3) x.1) := fun x hx => by
    have := tell_ok (lvl := lvl) hG.1 (hG.2.2 l hl).1 (hG.2.2 l hl).2 x.1
    rw [← keyE_kind (n := 1) (hk x hx)] at this
    exact this
  have h2 : q.map (ansF (n := 1) A lvl l) = q.map (ansE (n := 1) (tellN (n := 1) A lvl l 3)) := List.map_congr_left (fun x hx => ans_tell (n := 1) hG.1 hlv (hk x hx) (h1 x hx).2.2.1 (h1 x hx).2.2.2.1)
  exact ⟨h2, by rw [h2]; exact errS_ans hq h1⟩
/-- What the document's archive answers. -/
def fndR (A : List (List (El 3))) (s : By) : List By := if decE 3 s ≠ 0 then [] else match parse 3 s with
  | some q => if askE (n := 1) (levO (n := 2) q) q ≠ 0 then [] else (fndP A (levO (n := 2) q).toNat q A.length).map (·.2)
  | none => []
set_option maxRecDepth 20000 in
set_option maxHeartbeats 8000000 in
theorem rFind_any (F : Nat → Prop) (w : World) (b : Nat) (A : List (List (El 3))) (s : By) (h : RefA w F 2 b A) (hF : ∀ j, F j → j < w.heap.size) (hG : Good (n := 1) A) :
    Calls Tryz.prog 102 #[ptr b, .string (bs s)] w fun e w' => ∃ v, e = .returned (.tuple #[v, .int .i64 (fndE s)]) ∧ Below w.heap.size w w' ∧ StrRow 0 w' v (fndR A s) := by
  have H := hid h
  have HF := hid hF
  have HG := hid hG
  clear h hF hG
  go_enter Tryz.func102, Tryz.ntmps102
  go_wp2_with fail
  go_at_call 98
  refine (rDecode_any w 3 (Nat.le_refl _) s).mono ?_
  rintro e w1 ⟨u1, ⟨hd, rfl⟩ | ⟨hd, q, v, bl, hp, hle, rfl, how, hbl⟩⟩
  · have U1 := hid u1
    have hE := hid (show fndE s = decE 3 s by rw [fndE, if_pos hd])
    have hA := hid (show fndR A s = [] by rw [fndR, if_pos hd])
    have hd2 : (decE 3 s != 0) = true := by simpa using hd
    have hd3 : (decE 3 s == 0) = false := by simpa using hd
    clear u1 hd
    generalize decE 3 s = ee at hE hd2 hd3
    go_wp2
    go_ret2
    refine ⟨_, by rw [hE.out]; rfl, U1.out, ?_⟩
    rw [hA.out]
    exact World.ownsRow_nil _ _ _ _
  have U1 := hid u1
  have hEr := hid hle
  have hQ := hid (show q.length ≤ 24 ∧ ∀ x ∈ q, x.2.2.1.length ≤ 64 ∧ x.2.2.2.length ≤ 8 ∧ ∀ s ∈ x.2.2.2, s.length ≤ 24 ∧ ∀ y ∈ s, y.2.2.1.length ≤ 64 from sane_of (n := 1) hle)
  have hQ0 := hid (fun x hx => ((errS_props (n := 2) hle).2.2 x hx).2.1.1)
  have hE := hid (show fndE s = askE (n := 1) (levO (n := 2) q) q by rw [fndE, if_neg (fun h => h hd), hp])
  have hA := hid (show fndR A s = if askE (n := 1) (levO (n := 2) q) q ≠ 0 then [] else (fndP A (levO (n := 2) q).toNat q A.length).map (·.2) by rw [fndR, if_neg (fun h => h hd), hp])
  have R1 := hid (how.rd _ _ _ _ (fun j => j ∈ bl) (fun j hj => hj))
  obtain ⟨ad, cap, rfl⟩ := R1.out.slice
  have hl24 := hQ.out.1
  clear u1 hd hle hp how hbl
  go_wp2_with fail
  go_at_call 165
  refine (rlevel_any 2 (fun j => j ∈ bl) w1 _ q R1.out hl24).mono ?_
  rintro e w2 ⟨rfl, u2⟩
  have U2 := hid (U1.out.trans (u2.mono U1.out.size))
  have R2 := hid (R1.out.up u2)
  have hrange := hid (levO_range (n := 2) q)
  have hlkey := hid (fun (i : Nat) (hi : i < 4) (he : levO (n := 2) q = i) => lev_key hEr.out hi he)
  clear u2 R1
  generalize levO (n := 2) q = lv at hE hA hrange hlkey ⊢
  rcases hrange.out with hlv | ⟨lvl, hlv, hlve⟩
  · subst hlv
    have hE2 := hid (show fndE s = 10 by rw [hE.out]; rfl)
    have hA2 := hid (show fndR A s = [] by rw [hA.out]; exact if_pos (by rw [show askE (n := 1) (-1) q = 10 from rfl]; decide))
    clear hE hA hlkey hrange
    go_wp2
    go_ret2
    refine ⟨_, by rw [hE2.out]; rfl, U2.out, ?_⟩
    rw [hA2.out]
    exact World.ownsRow_nil _ _ _ _
  subst hlve
  have hlk := hid (hlkey.out lvl hlv rfl)
  have hnz : ¬ ((lvl : Int) < 0) := by omega
  clear hrange hlkey
  go_wp2_with fail
  go_at_call 166
  refine (rasked_any 1 (fun j => j ∈ bl) w2 _ q lvl hlv R2.out hl24 (fun x hx => ⟨hQ0.out x hx, hQ.out.2 x hx⟩) hlk.out).mono ?_
  rintro e w3 ⟨rfl, u3⟩
  have U3 := hid (U2.out.trans (u3.mono U2.out.size))
  have R3 := hid (R2.out.up u3)
  clear u3 R2
  by_cases hc : askE (n := 1) (lvl : Int) q = 0
  · have hA2 := hid (hA.out.trans (if_neg (fun h => h hc)))
    have hE2 := hid (hE.out.trans hc)
    have hLO := hid (goodQ_LO hEr.out hc)
    have hkeys := hid (ask_keys hc)
    rw [hc]
    clear hc hA hE
    go_wp2_with fail
    obtain ⟨vA, hOne, hRd⟩ := H.out
    obtain ⟨adA, capA, rfl⟩ := hRd.slice
    have HONE := hid hOne
    have HRD := hid hRd
    clear hOne hRd
    have hAl := HG.out.1
    go_loopw [9, 10, 11] (fun who out i wr => ∃ k : Nat, k ≤ A.length ∧ i = .int .i64 k ∧ Hid (Two w3.heap.size wr who out ((fndP A lvl q k).map (·.1)) ((fndP A lvl q k).map (·.2))) ∧ Hid (Below w3.heap.size w3 wr)) (fun _ _ i _ => A.length - (intOf i).toNat)
    case atStart => exact ⟨0, Nat.zero_le _, rfl, Two.nil _ _, Below.refl _ _⟩
    case round =>
      obtain ⟨k, hk, rfl, hT, hU⟩ := hrel
      obtain ⟨wA, rfl⟩ : ∃ wA, wA = wr := ⟨_, rfl⟩
      have B := hid (U3.out.trans (hU.out.mono U3.out.size))
      have hb0 := (HONE.out.up B.out).cell
      by_cases hkl : k < A.length
      · obtain ⟨a3, ad3, cap3, ha3, _, d3, hrd3⟩ := (HRD.out.up B.out).at (List.getElem?_eq_getElem hkl)
        subst ha3
        have hstep := hid (show fndP A lvl q (k + 1) = if goodF A lvl q k = true then insP (nm (n := 2) lvl A[k], wrS false 0 3 (q.map (ansF (n := 1) A lvl A[k]))) (fndP A lvl q k) else fndP A lvl q k by rw [fndP, List.getD_eq_getElem?_getD, List.getElem?_eq_getElem hkl]; rfl)
        have hgood := hid (show goodF A lvl q k = (newestA (n := 2) A k lvl && q.all (fitA A lvl A[k])) by unfold goodF; rw [List.getD_eq_getElem?_getD, List.getElem?_eq_getElem hkl]; rfl)
        have hml := hid (List.getElem_mem hkl)
        have hRef := hid (show RefA wA F 2 b A from RefA.up H.out B.out)
        have HS := hid (show ∀ l ∈ A, l.length ≤ 24 from fun l hl => (errS_props (n := 2) (HG.out.2.2 l hl).1).1)
        have C1 := hid (rnewest_any 2 F wA b A k lvl hRef.out hAl HS.out hkl hlv)
        have HR3 := hid hrd3
        clear hrd3
        generalize A[k] = l at d3 hstep hgood hml HR3
        have hSl := hid (show Sane (n := 1) l from sane_of (n := 1) (HG.out.2.2 l hml.out).1)
        have hl24' := hSl.out.1
        go_wp2_with fail
        go_at_call 167
        refine C1.out.mono ?_
        rintro e w4 ⟨rfl, u4⟩
        have U4 := hid u4
        generalize newestA (n := 2) A k lvl = g0 at hgood ⊢
        clear u4 C1 hb0 d3
        go_wp2_with fail
        go_loopw [13, 14] (fun g j wr => ∃ (i : Nat) (gd : Bool), i ≤ q.length ∧ j = .int .i64 i ∧ g = .bool gd ∧ Hid (goodF A lvl q k = (gd && (q.drop i).all (fitA A lvl l))) ∧ Hid (Below w4.heap.size w4 wr)) (fun _ j _ => q.length - (intOf j).toNat)
        case atStart => exact ⟨0, g0, Nat.zero_le _, rfl, rfl, hgood, Below.refl _ _⟩
        case round =>
          obtain ⟨i, gd, hi, rfl, rfl, hgd, hV⟩ := hrel
          have V4 := hid (U4.out.trans (hV.out.mono U4.out.size))
          have BV := hid (B.out.trans (V4.out.mono B.out.size))
          by_cases hex : i < q.length ∧ gd = true
          · obtain ⟨hil, rfl⟩ := hex
            obtain ⟨aq, ad5, cap5, rfl, _, c0, c1, c2, c3, hri⟩ := (R3.out.up (hU.out.trans (V4.out.mono hU.out.size))).at (List.getElem?_eq_getElem hil)
            have hst := hid (hgd.out.trans (congrArg (true && ·) (insR_all (f := fitA A lvl l) hil)))
            have hx0 := hid (hQ0.out _ (List.getElem_mem hil))
            have hxq := hid (hQ.out.2 _ (List.getElem_mem hil))
            have hxl := hid (hLO.out _ (List.getElem_mem hil))
            have HRI := hid hri
            clear hri hgd
            generalize q[i] = x at c0 c1 c2 c3 hst hx0 hxq hxl HRI
            by_cases ht : x.1 = 524370
            · have hG := hid (show goodF A lvl q k = (true && (q.drop (i + 1)).all (fitA A lvl l)) by rw [hst.out]; unfold fitA; rw [decide_eq_true ht]; rfl)
              have hb : (x.1 == 524370) = true := by simpa using ht
              clear hst ht
              go_wp2
              go_roundw
              case rel => exact ⟨i + 1, true, by omega, by go_num, rfl, hG, hV⟩
              case measure => simp [intOf]; omega
            · have hb : (x.1 == 524370) = false := by simpa using ht
              have hG := hid (show goodF A lvl q k = (fitF (n := 1) A lvl l x && (q.drop (i + 1)).all (fitA A lvl l)) by rw [hst.out]; unfold fitA; rw [decide_eq_false ht, Bool.false_or, Bool.true_and])
              have C2 := hid (rfitsA_any 1 F (fun j => j ∈ bl) wr b A _ l x ad5 cap5 lvl hlv (RefA.up H.out BV.out) (HR3.out.up V4.out) HRI.out hSl.out hAl HS.out hx0.out hxq.out.1 (fun a ha => ⟨(hxl.out a ha).1, fun y hy => ⟨((hxl.out a ha).2 y hy).1, ((hxl.out a ha).2 y hy).2.1⟩⟩))
              clear hst ht HRI
              go_wp2_with fail
              go_at_call 168
              refine C2.out.mono ?_
              rintro e w5 ⟨rfl, u5⟩
              have V5 := hid (hV.out.trans (u5.mono hV.out.size))
              clear u5 C2
              generalize fitF (n := 1) A lvl l x = ff at hG ⊢
              go_wp2
              go_roundw
              case rel => exact ⟨i + 1, ff, by omega, by go_num, rfl, hG, V5⟩
              case measure => simp [intOf]; omega
          · have hgf := hid (show goodF A lvl q k = gd by
              rw [hgd.out]
              cases gd
              · rfl
              · rw [List.drop_eq_nil_of_le (by have : ¬ i < q.length := fun h => hex ⟨h, rfl⟩
                                               omega)]; rfl)
            have hex2 : Hid (i < q.length → gd = false) := fun h => by
              cases gd
              · rfl
              · exact absurd ⟨h, rfl⟩ hex
            clear hgd hex
            cases gd
            · have hF := hid (show fndP A lvl q (k + 1) = fndP A lvl q k by rw [hstep.out, hgf.out]; rfl)
              have T9 := hid (show Two w3.heap.size wr u9 u10 ((fndP A lvl q (k + 1)).map (·.1)) ((fndP A lvl q (k + 1)).map (·.2)) from by rw [hF.out]; exact hT.out.up V4.out)
              have U9 := hid (hU.out.trans (V4.out.mono hU.out.size))
              clear hstep hgf hex2
              by_cases hil : i < q.length
              · have hiz : (i : Int) < q.length := by omega
                go_wp2
                go_roundw
                case rel => exact ⟨k + 1, by omega, by go_num, T9, U9⟩
                case measure => simp [intOf]; omega
              · have hiz : ¬ (i : Int) < q.length := by omega
                go_wp2
                go_roundw
                case rel => exact ⟨k + 1, by omega, by go_num, T9, U9⟩
                case measure => simp [intOf]; omega
            · have hF := hid (show fndP A lvl q (k + 1) = insP (nm (n := 2) lvl l, wrS false 0 3 (q.map (ansF (n := 1) A lvl l))) (fndP A lvl q k) by rw [hstep.out, hgf.out]; rfl)
              have hiz : ¬ (i : Int) < q.length := fun h => by have := hex2.out (by omega); cases this
              have hok := hid (ansF_ok HG.out hlv hml.out hEr.out hkeys.out).2
              have C3 := hid (ranswer_any F (fun j => j ∈ bl) wr b A _ _ l q lvl hlv (RefA.up H.out BV.out) (HR3.out.up V4.out) (fun j hj => Nat.lt_of_lt_of_le (HF.out j hj) BV.out.size) (R3.out.up (hU.out.trans (V4.out.mono hU.out.size))) hSl.out hAl HS.out hl24 hQ0.out (ansF_ok HG.out hlv hml.out hEr.out hkeys.out).2)
              clear hstep hgf hex2 hok
              go_wp2_with fail
              go_at_call 169
              refine C3.out.mono ?_
              rintro e w5 ⟨rfl, u5⟩
              have V5 := hid (V4.out.trans (u5.mono V4.out.size))
              have C4 := hid (rnames_any 2 F w5 _ l (HR3.out.up V5.out) hl24')
              generalize wrS false 0 3 (q.map (ansF (n := 1) A lvl l)) = ab at hF ⊢
              clear u5 C3
              go_wp2_with fail
              go_at_call 100
              refine C4.out.mono ?_
              rintro e w6 ⟨g6, cap6, rfl, _, hn6, u6⟩
              have V6 := hid (V5.out.trans (u6.mono V5.out.size))
              have n6 := hn6 lvl hlv
              have hlvz : (lvl : Int) < 4 := by omega
              have T6 := hid (hT.out.up V6.out)
              have C5 := hid (rinserted_any w6 _ _ (fndP A lvl q k) (nm (n := 2) lvl l, ab) 0 T6.out.1 T6.out.2.1 (Nat.le_trans (fndP_len A lvl q k) (by omega)))
              clear u6 hn6 C4
              go_wp2_with fail
              go_at_call 170
              refine C5.out.mono ?_
              rintro e w7 ⟨va, vb, rfl, u7, hT7⟩
              have U6 := hid (hU.out.trans (V6.out.mono hU.out.size))
              have U7 := hid (U6.out.trans (u7.mono U6.out.size))
              have T7 := hid (show Two w3.heap.size w7 va vb ((fndP A lvl q (k + 1)).map (·.1)) ((fndP A lvl q (k + 1)).map (·.2)) from by rw [hF.out]; exact hT7.ge U6.out.size)
              clear u7 hT7 C5
              go_wp2
              go_roundw
              case rel => exact ⟨k + 1, by omega, by go_num, T7, U7⟩
              case measure => simp [intOf]; omega
      · obtain rfl : k = A.length := by omega
        have hO := hid hT.out.2.1
        clear hT
        go_wp2
        go_ret2
        refine ⟨_, by rw [hE2.out]; rfl, B.out, ?_⟩
        rw [hA2.out]
        exact hO.out
  · have hA2 := hid (hA.out.trans (if_pos hc))
    have hc2 : (askE (n := 1) (lvl : Int) q == 0) = false := beq_eq_false_iff_ne.2 hc
    clear hc hA
    generalize askE (n := 1) (lvl : Int) q = ee at hE hc2 ⊢
    go_wp2
    go_ret2
    refine ⟨_, by rw [hE.out]; rfl, U3.out, ?_⟩
    rw [hA2.out]
    exact World.ownsRow_nil _ _ _ _
end Go.Proofs.YtaokifbpakbgdaaGreatDoor
